"""Long rows, great tables and long numbers, multiplied block by block by a scheme of small ones."""

from fewtimes.combining import table_places
from fewtimes.schemes import filled


def block_length(length, n):
    """The least length of n blocks that hold so many numbers."""
    return (length + n - 1) // n


def block_sum(part, blocks):
    """The sum of the part's multiples of the blocks, number by number."""
    made = [0] * len(blocks[0])
    for at, c in filled(part):
        made = [x + c * y for x, y in zip(made, blocks[at])]
    return made


def by_blocks(scheme, lefts, rights, places, multiply):
    """What the scheme tells of blocks, the numbers of told block k put to places[k]; and how many multiplyings."""
    told, times = [0] * (places[-1][-1] + 1), 0
    for l, r, o in scheme[3]:
        block, more = multiply(block_sum(l, lefts), block_sum(r, rights))
        times += more
        for k, c in filled(o):
            for at, x in zip(places[k], block):
                told[at] += c * x
    return (told, times)


def row_blocks(row, n, wide):
    """The row, filled up by noughts, as n blocks so wide."""
    whole = row + [0] * (n * wide - len(row))
    return [whole[at * wide:(at + 1) * wide] for at in range(n)]


def row_times(scheme, n, one, other):
    """The row of line_task of two rows of one length, and how many multiplyings of two numbers it took."""
    if len(one) == 1:
        return ([one[0] * other[0]], 1)
    wide = block_length(len(one), n)
    # A block times a block tells 2 * wide - 1 numbers, so that neighbouring told blocks overlap.
    places = [list(range(k * wide, (k + 2) * wide - 1)) for k in range(2 * n - 1)]
    told, times = by_blocks(scheme, row_blocks(one, n, wide), row_blocks(other, n, wide), places,
                            lambda x, y: row_times(scheme, n, x, y))
    return (told[:2 * len(one) - 1], times)


def times_for(products, n, length):
    """How many multiplyings of two numbers a scheme of so many products takes for rows or tables of this length."""
    count = 1
    while length > 1:
        count = count * products
        length = block_length(length, n)
    return count


def resized(table, side, new):
    """A table, held as a row, of another side: cut, or filled up by noughts."""
    return [table[a * side + b] if a < side and b < side else 0 for a in range(new) for b in range(new)]


def side_times(scheme, n, one, other, side):
    """As table_times, of tables that are held as rows, with the length of their sides."""
    if side == 1:
        return ([one[0] * other[0]], 1)
    wide = block_length(side, n)
    whole = n * wide
    places = [table_places(wide, wide, a * wide, b * wide, whole) for a in range(n) for b in range(n)]
    left, right = resized(one, side, whole), resized(other, side, whole)
    told, times = by_blocks(scheme, [[left[at] for at in spots] for spots in places],
                            [[right[at] for at in spots] for spots in places], places,
                            lambda x, y: side_times(scheme, n, x, y, wide))
    return (resized(told, whole, side), times)


def table_times(scheme, n, one, other):
    """The product of two tables with as many rows as columns, and how many multiplyings of two numbers it took."""
    side = len(one)
    told, times = side_times(scheme, n, [x for row in one for x in row], [x for row in other for x in row], side)
    return ([told[a * side:(a + 1) * side] for a in range(side)], times)


def figures_of(number, base):
    """The figures of a number in this base, least first, one at least."""
    figures = [number % base]
    rest = number // base
    while rest > 0:
        figures.append(rest % base)
        rest = rest // base
    return figures


def long_product(scheme, n, one, other, base):
    """The product of two numbers by their figures in this base, and how many multiplyings of two figures it took."""
    left, right = figures_of(one, base), figures_of(other, base)
    length = max(len(left), len(right))
    row, times = row_times(scheme, n, left + [0] * (length - len(left)), right + [0] * (length - len(right)))
    product = 0
    for x in reversed(row):
        product = product * base + x
    return (product, times)
