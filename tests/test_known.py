"""[2], [3] and [8]: the plain scheme of a task, rows by pairs, and two by two tables by seven products."""

import unittest

from asking import asked, numbers, spoilt
from fewtimes.known import by_pairs, plain, seven
from fewtimes.schemes import applied, does, is_scheme, task_by, times_in
from fewtimes.tasks import line_task, ring_task, table_task, task_of, value_of


class Plain(unittest.TestCase):
    def made(self, task):
        """The plain scheme, its products held against the words of the document."""
        scheme = asked(self, plain, task)
        self.assertIs(True, is_scheme(scheme))
        left, right, many, terms = task
        wanted = []
        for i, j in sorted({(i, j) for k, i, j, c in terms}):
            l = tuple(int(at == i) for at in range(left))
            r = tuple(int(at == j) for at in range(right))
            o = tuple(sum(c for k, x, y, c in terms if (k, x, y) == (at, i, j)) for at in range(many))
            wanted.append((l, r, o))
        self.assertEqual((left, right, many, wanted), scheme)
        self.assertIs(True, does(scheme, task))
        return scheme

    def test_products_rise_by_pairs_not_as_terms_do(self):
        task = task_of(2, 3, 2, [(0, 1, 0, 5), (0, 0, 2, 7), (1, 0, 1, -3), (1, 1, 2, 2)])
        wanted = [((1, 0), (0, 1, 0), (0, -3)), ((1, 0), (0, 0, 1), (7, 0)),
                  ((0, 1), (1, 0, 0), (5, 0)), ((0, 1), (0, 0, 1), (0, 2))]
        self.assertEqual((2, 3, 2, wanted), asked(self, plain, task))
        self.made(task)

    def test_several_told_numbers_of_one_pair_make_one_product(self):
        task = task_of(2, 2, 4, [(0, 1, 1, 4), (1, 1, 1, -5), (3, 1, 1, 6), (3, 0, 1, 9)])
        wanted = [((1, 0), (0, 1), (0, 0, 0, 9)), ((0, 1), (0, 1), (4, -5, 0, 6))]
        self.assertEqual((2, 2, 4, wanted), asked(self, plain, task))

    def test_a_task_without_terms(self):
        self.assertEqual((3, 4, 5, []), asked(self, plain, (3, 4, 5, [])))
        self.assertEqual((1, 1, 1, []), asked(self, plain, (1, 1, 1, [])))

    def test_lengths_of_one(self):
        self.assertEqual((1, 1, 1, [((1,), (1,), (-7,))]), asked(self, plain, (1, 1, 1, [(0, 0, 0, -7)])))

    def test_places_of_two_figures_rise_as_numbers(self):
        scheme = self.made(task_of(12, 12, 1, [(0, i, j, 1) for i in (2, 10, 11) for j in (10, 9, 1)]))
        pairs = [(l.index(1), r.index(1)) for l, r, o in scheme[3]]
        self.assertEqual([(i, j) for i in (2, 10, 11) for j in (1, 9, 10)], pairs)

    def test_tables(self):
        for sizes in [(1, 1, 1), (1, 2, 3), (3, 2, 1), (2, 2, 2), (3, 4, 5), (1, 9, 9)]:
            scheme = self.made(table_task(*sizes))
            self.assertEqual(sizes[0] * sizes[1] * sizes[2], times_in(scheme))

    def test_lines(self):
        for n, m in [(1, 1), (1, 5), (5, 1), (3, 4), (20, 20)]:
            self.assertEqual(n * m, times_in(self.made(line_task(n, m))))

    def test_rings(self):
        for n in (1, 2, 5, 20):
            for turn in (1, -1):
                self.assertEqual(n * n, times_in(self.made(ring_task(n, turn))))

    def test_great_numbers_and_a_thousand_terms(self):
        places = [(at % 81, at * 7 % 19, at * 11 % 21) for at in range(1000)]
        terms = [(k, i, j, c * 10 ** 12) for (k, i, j), c in zip(places, numbers(1000, 4, 999)) if c]
        self.made(task_of(81, 81, 81, terms))

    def test_it_tells_what_the_task_tells(self):
        task = task_of(4, 3, 5, [(at % 5, at % 4, at % 3, at - 10) for at in range(40)])
        one, other = numbers(4, 8, 10 ** 20), numbers(3, 9, 10 ** 20)
        self.assertEqual(value_of(task, one, other), applied(plain(task), one, other))


class ByPairs(unittest.TestCase):
    def test_of_one(self):
        self.assertEqual((1, 1, 1, [((1,), (1,), (1,))]), asked(self, by_pairs, 1))

    def test_of_two(self):
        wanted = [((1, 0), (1, 0), (1, -1, 0)), ((0, 1), (0, 1), (0, -1, 1)), ((1, 1), (1, 1), (0, 1, 0))]
        self.assertEqual((2, 2, 3, wanted), asked(self, by_pairs, 2))

    def test_of_three(self):
        wanted = [((1, 0, 0), (1, 0, 0), (1, -1, -1, 0, 0)),
                  ((0, 1, 0), (0, 1, 0), (0, -1, 1, -1, 0)),
                  ((0, 0, 1), (0, 0, 1), (0, 0, -1, -1, 1)),
                  ((1, 1, 0), (1, 1, 0), (0, 1, 0, 0, 0)),
                  ((1, 0, 1), (1, 0, 1), (0, 0, 1, 0, 0)),
                  ((0, 1, 1), (0, 1, 1), (0, 0, 0, 1, 0))]
        self.assertEqual((3, 3, 5, wanted), asked(self, by_pairs, 3))

    def test_of_twenty_five(self):
        n, wanted = 25, []
        for i in range(n):
            alone = tuple(1 if at == i else 0 for at in range(n))
            wanted.append((alone, alone, tuple((at == 2 * i) - (i <= at < i + n and at != 2 * i)
                                               for at in range(2 * n - 1))))
        for i in range(n):
            for j in range(i + 1, n):
                both = tuple(1 if at == i or at == j else 0 for at in range(n))
                wanted.append((both, both, tuple(1 if at == i + j else 0 for at in range(2 * n - 1))))
        self.assertEqual((25, 25, 49, wanted), asked(self, by_pairs, 25))
        self.assertEqual(325, len(wanted))

    def test_it_does_the_line_by_so_many_products(self):
        for n in range(1, 26):
            scheme = asked(self, by_pairs, n)
            self.assertIs(True, is_scheme(scheme))
            self.assertEqual(n * (n + 1) // 2, times_in(scheme))
            self.assertEqual(line_task(n, n), task_by(scheme))


class Seven(unittest.TestCase):
    def test_it_does_two_by_two_tables_by_seven_products(self):
        scheme = asked(self, seven)
        self.assertIs(True, is_scheme(scheme))
        self.assertEqual(7, times_in(scheme))
        self.assertEqual(table_task(2, 2, 2), task_by(scheme))
        self.assertEqual([19, 22, 43, 50], applied(scheme, [1, 2, 3, 4], [5, 6, 7, 8]))

    def test_it_is_the_same_where_what_was_told_was_changed(self):
        first = seven()
        kept = (*first[:3], list(first[3]))
        first[3].clear()
        self.assertEqual(kept, seven())
        spoilt(seven())
        self.assertEqual(kept, seven())
        self.assertIsNot(seven()[3], seven()[3])


if __name__ == "__main__":
    unittest.main()
