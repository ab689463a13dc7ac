"""[2], [3] and [11]: tasks and schemes turned and mirrored."""

import unittest

from asking import asked, numbers, scheme_of
from fewtimes.known import by_pairs, plain, seven
from fewtimes.schemes import applied, does, is_scheme, task_by
from fewtimes.tasks import line_task, ring_task, table_task, task_of
from fewtimes.turning import mirrored, tables_mirrored, tables_turned, task_mirrored, task_turned, turned

TASKS = [(1, 1, 1, []), (2, 3, 4, []), (1, 1, 1, [(0, 0, 0, -5)]), line_task(2, 5), ring_task(4, -1),
         table_task(2, 3, 4), task_of(2, 3, 4, [(3, 0, 2, 7), (0, 1, 1, -2), (2, 1, 0, 10 ** 15), (2, 0, 1, 1)])]

SCHEMES = [(1, 1, 1, []), (2, 3, 4, []), seven(), by_pairs(4), plain(table_task(2, 3, 4)),
           scheme_of(2, 3, 4, 5, 11, 10000), scheme_of(1, 5, 2, 9, 12, 1),
           (1, 2, 3, [((0,), (0, 0), (0, 0, 0)), ((4,), (5, 6), (7, 8, 9))])]

SIZES = [(1, 1, 1), (2, 3, 4), (4, 3, 2), (3, 4, 2), (1, 2, 3), (3, 1, 2), (2, 3, 1), (2, 2, 2), (1, 9, 9)]


def table_of(rows, columns, seed):
    """A table of so many rows and columns, as a list of rows."""
    row = numbers(rows * columns, seed, 10 ** 9)
    return [row[at * columns:(at + 1) * columns] for at in range(rows)]


def as_row(table):
    """The table held as a row, row by row."""
    return [x for row in table for x in row]


def multiplied(one, other):
    """The product of two tables."""
    return [[sum(x * y for x, y in zip(row, column)) for column in zip(*other)] for row in one]


class Tasks(unittest.TestCase):
    def test_turned_lengths_and_places(self):
        task = task_of(2, 3, 4, [(3, 0, 2, 7), (0, 1, 1, -2), (2, 1, 0, 9)])
        wanted = (3, 4, 2, [(0, 2, 3, 7), (1, 0, 2, 9), (1, 1, 0, -2)])
        self.assertEqual(wanted, asked(self, task_turned, task))

    def test_mirrored_lengths_and_places(self):
        task = task_of(2, 3, 4, [(3, 0, 2, 7), (3, 1, 0, 8), (0, 1, 1, -2), (2, 1, 0, 9)])
        wanted = (3, 2, 4, [(0, 1, 1, -2), (2, 0, 1, 9), (3, 0, 1, 8), (3, 2, 0, 7)])
        self.assertEqual(wanted, asked(self, task_mirrored, task))

    def test_each_term_of_each_task(self):
        for task in TASKS:
            left, right, many, terms = task
            told = asked(self, task_turned, task)
            self.assertEqual((right, many, left, sorted((i, j, k, c) for k, i, j, c in terms)), told)
            told = asked(self, task_mirrored, task)
            self.assertEqual((right, left, many, sorted((k, j, i, c) for k, i, j, c in terms)), told)

    def test_turned_thrice_and_mirrored_twice(self):
        for task in TASKS:
            self.assertEqual(task, asked(self, task_turned, task_turned(task_turned(task))))
            self.assertEqual(task, asked(self, task_mirrored, task_mirrored(task)))


class Schemes(unittest.TestCase):
    def test_turned_lengths_and_places(self):
        scheme = (1, 2, 3, [((1,), (2, 3), (4, 5, 6)), ((-1,), (0, -3), (0, 0, 0))])
        wanted = (2, 3, 1, [((2, 3), (4, 5, 6), (1,)), ((0, -3), (0, 0, 0), (-1,))])
        self.assertEqual(wanted, asked(self, turned, scheme))

    def test_mirrored_lengths_and_places(self):
        scheme = (1, 2, 3, [((1,), (2, 3), (4, 5, 6)), ((-1,), (0, -3), (0, 0, 0))])
        wanted = (2, 1, 3, [((2, 3), (1,), (4, 5, 6)), ((0, -3), (-1,), (0, 0, 0))])
        self.assertEqual(wanted, asked(self, mirrored, scheme))

    def test_each_product_of_each_scheme(self):
        for scheme in SCHEMES:
            left, right, many, products = scheme
            self.assertEqual((right, many, left, [(r, o, l) for l, r, o in products]), asked(self, turned, scheme))
            self.assertEqual((right, left, many, [(r, l, o) for l, r, o in products]), asked(self, mirrored, scheme))

    def test_turned_thrice_and_mirrored_twice(self):
        for scheme in SCHEMES:
            self.assertEqual(scheme, asked(self, turned, turned(turned(scheme))))
            self.assertEqual(scheme, asked(self, mirrored, mirrored(scheme)))

    def test_what_is_made_does_what_is_made_of_the_task(self):
        for scheme in SCHEMES:
            for make, of_task in [(turned, task_turned), (mirrored, task_mirrored)]:
                self.assertIs(True, is_scheme(make(scheme)))
                self.assertEqual(of_task(task_by(scheme)), task_by(make(scheme)))


class Tables(unittest.TestCase):
    def test_turned_place_by_place(self):
        l, r, o = tuple(range(6)), tuple(range(10, 22)), tuple(range(30, 38))
        new_right = tuple(o[a * 4 + c] for c in range(4) for a in range(2))
        new_told = tuple(l[a * 3 + b] for b in range(3) for a in range(2))
        self.assertEqual((30, 34, 31, 35, 32, 36, 33, 37), new_right)
        self.assertEqual((0, 3, 1, 4, 2, 5), new_told)
        told = asked(self, tables_turned, (6, 12, 8, [(l, r, o)]), (2, 3, 4))
        self.assertEqual((12, 8, 6, [(r, new_right, new_told)]), told)

    def test_mirrored_place_by_place(self):
        l, r, o = tuple(range(6)), tuple(range(10, 22)), tuple(range(30, 38))
        wanted = ((10, 14, 18, 11, 15, 19, 12, 16, 20, 13, 17, 21), (0, 3, 1, 4, 2, 5),
                  (30, 34, 31, 35, 32, 36, 33, 37))
        told = asked(self, tables_mirrored, (6, 12, 8, [(l, r, o)]), (2, 3, 4))
        self.assertEqual((12, 6, 8, [wanted]), told)

    def test_they_do_the_tasks_told(self):
        for n, m, p in SIZES:
            scheme = plain(table_task(n, m, p))
            self.assertIs(True, does(asked(self, tables_turned, scheme, (n, m, p)), table_task(m, p, n)))
            self.assertIs(True, does(asked(self, tables_mirrored, scheme, (n, m, p)), table_task(p, m, n)))

    def test_seven_products_stay_seven(self):
        for make in (tables_turned, tables_mirrored):
            made = asked(self, make, seven(), (2, 2, 2))
            self.assertEqual(7, len(made[3]))
            self.assertIs(True, does(made, table_task(2, 2, 2)))

    def test_they_multiply_tables(self):
        scheme = plain(table_task(2, 3, 4))
        one, other = table_of(3, 4, 1), table_of(4, 2, 2)
        told = applied(tables_turned(scheme, (2, 3, 4)), as_row(one), as_row(other))
        self.assertEqual(as_row(multiplied(one, other)), told)
        one, other = table_of(4, 3, 3), table_of(3, 2, 4)
        told = applied(tables_mirrored(scheme, (2, 3, 4)), as_row(one), as_row(other))
        self.assertEqual(as_row(multiplied(one, other)), told)

    def test_products_keep_their_order(self):
        scheme = scheme_of(6, 12, 8, 6, 77, 9)
        for make in (tables_turned, tables_mirrored):
            single = [make((6, 12, 8, [product]), (2, 3, 4))[3][0] for product in scheme[3]]
            self.assertEqual(single, asked(self, make, scheme, (2, 3, 4))[3])

    def test_turned_thrice_and_mirrored_twice(self):
        for n, m, p in SIZES:
            scheme = plain(table_task(n, m, p))
            once = tables_turned(scheme, (n, m, p))
            self.assertEqual(scheme, tables_turned(tables_turned(once, (m, p, n)), (p, n, m)))
            self.assertEqual(scheme, tables_mirrored(tables_mirrored(scheme, (n, m, p)), (p, m, n)))


if __name__ == "__main__":
    unittest.main()
