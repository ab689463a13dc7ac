"""Tasks and schemes over the field of p numbers, p being 2 or 3: their tables, and the sums of these."""

from fewtimes.schemes import task_by
from fewtimes.tasks import task_of


def does_over(scheme, task, p):
    """Whether the scheme does the task but for multiples of p."""
    left, right, many, terms = task
    if scheme[:3] != (left, right, many):
        return False
    apart = task_of(left, right, many, task_by(scheme)[3] + [(k, i, j, -c) for k, i, j, c in terms])
    return all([c % p == 0 for k, i, j, c in apart[3]])


def rows_over(length, p):
    """The rising list of all tuples of so many numbers from 0 to p - 1."""
    rows = [()]
    for turn in range(length):
        rows = [row + (x,) for row in rows for x in range(p)]
    return rows


def begins_with_one(row):
    """Whether the row isn't of noughts, and its first number that isn't 0 is 1."""
    some = [x for x in row if x != 0]
    return len(some) > 0 and some[0] == 1


def pairs_over(left, right, p):
    """The rising list of pairs (l, r), one for each table that a single product can have, but for multiples."""
    rights = [row for row in rows_over(right, p) if begins_with_one(row)]
    return [(l, r) for l in rows_over(left, p) if begins_with_one(l) for r in rights]


def pair_table(pair, p):
    """The table of a pair, held as a row."""
    l, r = pair
    return tuple([x * y % p for x in l for y in r])


def tables_over(task, p):
    """The task's tables, one for each told number, held as rows."""
    left, right, many, terms = task
    tables = [[0] * (left * right) for k in range(many)]
    for k, i, j, c in terms:
        tables[k][i * right + j] = c % p
    return [tuple(table) for table in tables]


def dot(one, other, p):
    """The sum of two rows' products, by places."""
    return sum([x * y for x, y in zip(one, other)]) % p


def without(row, base, p):
    """The row less the multiples of the base's rows that make it 0 at all their places."""
    # A base's row is 0 at the places of those ahead of it, so no place is filled again.
    for place, other in base:
        c = row[place]
        if c != 0:
            row = tuple([(x - c * y) % p for x, y in zip(row, other)])
    return row


def is_sum(row, base, p):
    """Whether the row is a sum of multiples of the base's rows."""
    return not any(without(row, base, p))


def first_filled(row):
    """The first place of a row, which isn't of noughts, where it isn't 0."""
    return [at for at, x in enumerate(row) if x != 0][0]


def grown(base, rows, p):
    """The base with more rows: pairs (place, row), the row being 1 at its place, and 0 at the places ahead."""
    made = list(base)
    for row in rows:
        rest = without(row, made, p)
        if any(rest):
            place = first_filled(rest)
            # Over 2 and over 3 each number but 0, times itself, is 1.
            made.append((place, tuple([rest[place] * x % p for x in rest])))
    return made


def span_of(task, p):
    """How many of the task's tables can be chosen at most so that none is a sum of multiples of the others."""
    return len(grown([], tables_over(task, p), p))
