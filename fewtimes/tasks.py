"""Tasks: which sums of products of two rows' numbers are to be told."""


def task_of(left, right, many, terms):
    """The task of these terms, in any order, those of one place put together."""
    sums = {}
    for k, i, j, c in terms:
        sums[(k, i, j)] = sums.get((k, i, j), 0) + c
    return (left, right, many, [(k, i, j, c) for (k, i, j), c in sorted(sums.items()) if c != 0])


def value_of(task, one, other):
    """The row that the task tells of a left row and a right row."""
    left, right, many, terms = task
    row = [0] * many
    for k, i, j, c in terms:
        row[k] += c * one[i] * other[j]
    return row


def table_task(n, m, p):
    """The product of an n by m table with an m by p one."""
    terms = [(a * p + c, a * m + b, b * p + c, 1) for a in range(n) for b in range(m) for c in range(p)]
    return task_of(n * m, m * p, n * p, terms)


def line_task(n, m):
    """The product of n and m numbers laid over one another."""
    terms = [(i + j, i, j, 1) for i in range(n) for j in range(m)]
    return task_of(n, m, n + m - 1, terms)


def ring_task(n, turn):
    """As line_task(n, n), what lies beyond n being put to the beginning, times turn."""
    terms = [((i + j) % n, i, j, 1 if i + j < n else turn) for i in range(n) for j in range(n)]
    return task_of(n, n, n, terms)
