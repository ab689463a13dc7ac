"""Known schemes: the plain one of a task, rows by pairs, and two by two tables by seven products."""

from fewtimes.schemes import single_one

# Strassen's products of two by two tables.
SEVEN = (((1, 0, 0, 1), (1, 0, 0, 1), (1, 0, 0, 1)),
         ((0, 0, 1, 1), (1, 0, 0, 0), (0, 0, 1, -1)),
         ((1, 0, 0, 0), (0, 1, 0, -1), (0, 1, 0, 1)),
         ((0, 0, 0, 1), (-1, 0, 1, 0), (1, 0, 1, 0)),
         ((1, 1, 0, 0), (0, 0, 0, 1), (-1, 1, 0, 0)),
         ((-1, 0, 1, 0), (1, 1, 0, 0), (0, 0, 0, 1)),
         ((0, 1, 0, -1), (0, 0, 1, 1), (1, 0, 0, 0)))


def plain(task):
    """The scheme with a product for each pair of numbers that the task multiplies."""
    left, right, many, terms = task
    outs = {}
    for k, i, j, c in terms:
        if (i, j) not in outs:
            outs[(i, j)] = [0] * many
        outs[(i, j)][k] = c
    products = [(tuple(single_one(left, i)), tuple(single_one(right, j)), tuple(outs[(i, j)])) for i, j in sorted(outs)]
    return (left, right, many, products)


def own_product(n, i):
    """Left i times right i, taken away again wherever i meets another number by pairs."""
    o = [0] * (2 * n - 1)
    for j in range(n):
        o[i + j] = 1 if j == i else -1
    part = tuple(single_one(n, i))
    return (part, part, tuple(o))


def pair_product(n, i, j):
    """Left i and j together times right i and j together."""
    part = tuple([1 if at in (i, j) else 0 for at in range(n)])
    return (part, part, tuple(single_one(2 * n - 1, i + j)))


def by_pairs(n):
    """A scheme of n * (n + 1) // 2 products that does line_task(n, n)."""
    products = [own_product(n, i) for i in range(n)]
    products += [pair_product(n, i, j) for i in range(n) for j in range(i + 1, n)]
    return (n, n, 2 * n - 1, products)


def seven():
    """A scheme of seven products that does table_task(2, 2, 2)."""
    return (4, 4, 4, list(SEVEN))
