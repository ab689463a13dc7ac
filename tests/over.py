"""Tables over the fields of two and of three numbers, and all sums of their multiples, as the tests reckon them."""

from asking import numbers
from fewtimes.fields import pairs_over
from fewtimes.tasks import task_of


def pair_tables(left, right, p):
    """The tables of all pairs, by places."""
    return [tuple(x * y % p for x in l for y in r) for l, r in pairs_over(left, right, p)]


def own_tables(task, p):
    """The task's tables, by places."""
    left, right, many, terms = task
    made = [[0] * (left * right) for _ in range(many)]
    for k, i, j, c in terms:
        made[k][i * right + j] = c % p
    return [tuple(row) for row in made]


def with_sums(sums, row, p):
    """The sums of multiples with those of one row more."""
    if row in sums:
        return sums
    return {tuple((x + c * y) % p for x, y in zip(old, row)) for old in sums for c in range(p)}


def all_sums(rows, length, p):
    """All sums of multiples of the rows."""
    sums = {(0,) * length}
    for row in rows:
        sums = with_sums(sums, row, p)
    return sums


def task_with(left, right, *rows):
    """The task that has these tables."""
    terms = [(k, at // right, at % right, c) for k, row in enumerate(rows) for at, c in enumerate(row)]
    return task_of(left, right, len(rows), terms)


def some_task(left, right, many, seed, bound):
    """A task of any numbers."""
    return task_with(left, right, *[numbers(left * right, 100 * seed + k, bound) for k in range(many)])
