"""Schemes: lists of products that tell a row, and what they do by their numbers alone."""

from fewtimes.tasks import task_of

LONGEST = 81
MOST_PRODUCTS = 400


def is_number(thing):
    """Whether it is a whole number."""
    # Python holds True and False for whole numbers, the document doesn't.
    return isinstance(thing, int) and not isinstance(thing, bool)


def is_length(thing):
    """Whether a row of a scheme may be so long."""
    return is_number(thing) and 1 <= thing <= LONGEST


def is_part(thing, length):
    """Whether it is a tuple of just so many numbers."""
    return isinstance(thing, tuple) and len(thing) == length and all([is_number(x) for x in thing])


def is_product(thing, lengths):
    """Whether it is a product whose parts have these lengths."""
    if not isinstance(thing, tuple) or len(thing) != 3:
        return False
    return all([is_part(part, length) for part, length in zip(thing, lengths)])


def is_scheme(thing):
    """Whether it is a scheme of lengths and a count of products within the bounds."""
    if not isinstance(thing, tuple) or len(thing) != 4:
        return False
    lengths, products = thing[:3], thing[3]
    if not all([is_length(x) for x in lengths]):
        return False
    if not isinstance(products, list) or len(products) > MOST_PRODUCTS:
        return False
    return all([is_product(x, lengths) for x in products])


def part_of_row(part, row):
    """The sum of the part's numbers times the row's."""
    return sum([x * y for x, y in zip(part, row)])


def applied(scheme, one, other):
    """The row that the scheme tells of a left row and a right row."""
    left, right, many, products = scheme
    told = [0] * many
    for l, r, o in products:
        product = part_of_row(l, one) * part_of_row(r, other)
        told = [x + c * product for x, c in zip(told, o)]
    return told


def times_in(scheme):
    """How many products the scheme has."""
    return len(scheme[3])


def sums_among(numbers):
    """How many additions those of the numbers that aren't 0 take."""
    return max(0, len([x for x in numbers if x != 0]) - 1)


def sums_in(scheme):
    """How many additions the scheme takes, ahead of its products and behind them."""
    left, right, many, products = scheme
    ahead = sum([sums_among(l) + sums_among(r) for l, r, o in products])
    behind = sum([sums_among([o[k] for l, r, o in products]) for k in range(many)])
    return ahead + behind


def filled(part):
    """The pairs (place, number) of a part's numbers that aren't 0."""
    return [(at, x) for at, x in enumerate(part) if x != 0]


def has_noughts(product):
    """Whether a part of the product is of noughts, so that it tells nothing."""
    return not all([any(part) for part in product])


def rows_by_pairs(scheme):
    """For each (i, j) that some product has, the row told of a single 1 at i and at j."""
    left, right, many, products = scheme
    rows = {}
    for l, r, o in products:
        outs, rights = filled(o), filled(r)
        for i, x in filled(l):
            for j, y in rights:
                if (i, j) not in rows:
                    rows[(i, j)] = [0] * many
                # Looked up once: with long parts the loop below is nearly all the work.
                row, product = rows[(i, j)], x * y
                for k, c in outs:
                    row[k] += c * product
    return rows


def task_by(scheme):
    """The one task that the scheme does."""
    left, right, many, products = scheme
    rows = rows_by_pairs(scheme)
    return task_of(left, right, many, [(k, i, j, c) for (i, j), row in rows.items() for k, c in filled(row)])


def does(scheme, task):
    """Whether the scheme does the task."""
    return task_by(scheme) == task


def single_one(length, at):
    """A row of noughts with a 1 at one place."""
    row = [0] * length
    row[at] = 1
    return row


def fails_at(scheme, task):
    """None where the scheme does the task; else the least pair of rows of a single 1 at which it fails."""
    left, right, many, terms = task
    # The terms by which the two differ: where there are none, they tell the same.
    wrong = task_of(left, right, many, task_by(scheme)[3] + [(k, i, j, -c) for k, i, j, c in terms])[3]
    if not wrong:
        return None
    i, j = min([term[1:3] for term in wrong])
    return (single_one(left, i), single_one(right, j))
