"""Tasks and schemes made out of others: one within another, beside one another, cut, and wound to a ring."""

from fewtimes.schemes import has_noughts
from fewtimes.tasks import task_of

# Which of the sizes (n, m, p) are the rows and the columns of the left, the right and the told table.
TABLES = ((0, 1), (1, 2), (0, 2))


def task_within(outer, inner):
    """The task whose numbers are blocks, multiplied as outer tells, and the blocks' numbers as inner tells."""
    left, right, many, terms = inner
    made = [(block_k * many + k, block_i * left + i, block_j * right + j, block_c * c)
            for block_k, block_i, block_j, block_c in outer[3] for k, i, j, c in terms]
    return task_of(outer[0] * left, outer[1] * right, outer[2] * many, made)


def product_within(outer, inner):
    """The product whose parts are outer's, each number of them a block of inner's times that number."""
    return tuple([tuple([x * y for x in block for y in part]) for block, part in zip(outer, inner)])


def within(outer, inner):
    """The scheme that does task_within of what the two do."""
    products = [product_within(block, product) for block in outer[3] for product in inner[3]]
    return (outer[0] * inner[0], outer[1] * inner[1], outer[2] * inner[2], products)


def moved(part, places, length):
    """A part of this length, each number put to its place, those of one place put together."""
    row = [0] * length
    for x, at in zip(part, places):
        row[at] += x
    return tuple(row)


def products_moved(products, places, lengths):
    """The products with all numbers of their three parts put to their places."""
    return [tuple([moved(part, spots, length) for part, spots, length in zip(product, places, lengths)])
            for product in products]


def block_places(rows, columns, high, wide):
    """Where the numbers of rows by columns blocks, each high by wide, block by block, stand in the one table."""
    return [(block_row * high + a) * columns * wide + block_column * wide + b
            for block_row in range(rows) for block_column in range(columns) for a in range(high) for b in range(wide)]


def tables_within(outer, sizes, inner, others):
    """The scheme of tables of blocks: outer multiplies the blocks, inner the tables in them."""
    left, right, many, products = within(outer, inner)
    places = [block_places(sizes[row], sizes[column], others[row], others[column]) for row, column in TABLES]
    return (left, right, many, products_moved(products, places, (left, right, many)))


def lines_within(outer, n, m, inner, b):
    """The scheme of rows of blocks: outer lays the blocks over one another, inner the numbers in them."""
    # A block times a block tells 2 * b - 1 numbers, so that neighbouring told blocks overlap.
    told = [block * b + k for block in range(n + m - 1) for k in range(2 * b - 1)]
    places = [list(range(n * b)), list(range(m * b)), told]
    lengths = (n * b, m * b, (n + m) * b - 1)
    return lengths + (products_moved(within(outer, inner)[3], places, lengths),)


def table_places(rows, columns, top, first, width):
    """Where a table's numbers stand in a table of this width, its corner lying at row top and column first."""
    return [(top + a) * width + first + b for a in range(rows) for b in range(columns)]


def places_in(sizes, corner, whole):
    """Where the numbers of the three tables of these sizes stand in those of the sizes whole."""
    return [table_places(sizes[row], sizes[column], corner[row], corner[column], whole[column])
            for row, column in TABLES]


def beside(one, sizes, other, others, side):
    """The scheme of tables that are longer at one side, one doing what lies ahead there, other the rest."""
    whole = list(sizes)
    whole[side] += others[side]
    corner = [0, 0, 0]
    corner[side] = sizes[side]
    lengths = tuple([whole[row] * whole[column] for row, column in TABLES])
    products = products_moved(one[3], places_in(sizes, (0, 0, 0), whole), lengths)
    products += products_moved(other[3], places_in(others, corner, whole), lengths)
    return lengths + (products,)


def task_cut(task, lefts, rights, outs):
    """The task of these numbers of the three rows, in this order, as if the others were 0 or not told."""
    new_i = {i: at for at, i in enumerate(lefts)}
    new_j = {j: at for at, j in enumerate(rights)}
    new_k = {k: at for at, k in enumerate(outs)}
    terms = [(new_k[k], new_i[i], new_j[j], c) for k, i, j, c in task[3] if k in new_k and i in new_i and j in new_j]
    return task_of(len(lefts), len(rights), len(outs), terms)


def cut(scheme, lefts, rights, outs):
    """The scheme of these numbers of the three rows, in this order, as if the others were 0 or not told."""
    products = [(tuple([l[i] for i in lefts]), tuple([r[j] for j in rights]), tuple([o[k] for k in outs]))
                for l, r, o in scheme[3]]
    return (len(lefts), len(rights), len(outs), [product for product in products if not has_noughts(product)])


def tables_cut(scheme, sizes, less):
    """The scheme of tables cut to their first rows and columns."""
    lefts, rights, outs = places_in(less, (0, 0, 0), sizes)
    return cut(scheme, lefts, rights, outs)


def wound_row(row, n, turn):
    """The first n numbers of a row, the later ones times turn put to them from the beginning on."""
    told = list(row[:n])
    for k, x in enumerate(row[n:]):
        told[k] += turn * x
    return tuple(told)


def wound(scheme, n, turn):
    """The scheme of a ring out of one of a line: what lies beyond n comes to the beginning, times turn."""
    left, right, many, products = scheme
    return (left, right, n, [(l, r, wound_row(o, n, turn)) for l, r, o in products])
