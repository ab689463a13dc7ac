"""Tasks and schemes with their three rows exchanged: turned and mirrored."""

from fewtimes.tasks import task_of


def task_turned(task):
    """The task whose left row is the right one, whose right row is the told one, and that tells the left one."""
    left, right, many, terms = task
    return task_of(right, many, left, [(i, j, k, c) for k, i, j, c in terms])


def turned(scheme):
    """The scheme that does task_turned of what the scheme does."""
    left, right, many, products = scheme
    return (right, many, left, [(r, o, l) for l, r, o in products])


def task_mirrored(task):
    """The task with the left and the right row exchanged."""
    left, right, many, terms = task
    return task_of(right, left, many, [(k, j, i, c) for k, i, j, c in terms])


def mirrored(scheme):
    """The scheme that does task_mirrored of what the scheme does."""
    left, right, many, products = scheme
    return (right, left, many, [(r, l, o) for l, r, o in products])


def by_columns(part, rows, columns):
    """A table's numbers, which stood row by row, written column by column."""
    return tuple([part[a * columns + b] for b in range(columns) for a in range(rows)])


def tables_turned(scheme, sizes):
    """The scheme of an m by p table and a p by n one, out of one of an n by m and an m by p table."""
    n, m, p = sizes
    left, right, many, products = turned(scheme)
    return (left, right, many, [(l, by_columns(r, n, p), by_columns(o, n, m)) for l, r, o in products])


def tables_mirrored(scheme, sizes):
    """The scheme of a p by m table and an m by n one, out of one of an n by m and an m by p table."""
    n, m, p = sizes
    left, right, many, products = mirrored(scheme)
    return (left, right, many, [(by_columns(l, m, p), by_columns(r, n, m), by_columns(o, n, p))
                                for l, r, o in products])
