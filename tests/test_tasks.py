"""[2], [3], [4] and [5]: tasks, their values, and the told tasks."""

import itertools
import unittest

from asking import asked, numbers
from fewtimes.tasks import line_task, ring_task, table_task, task_of, value_of

GREAT = 10 ** 15


class TaskOf(unittest.TestCase):
    def test_a_task_is_a_tuple_with_a_list_of_tuples(self):
        task = asked(self, task_of, 2, 3, 1, [(0, 1, 2, 5)])
        self.assertEqual((2, 3, 1, [(0, 1, 2, 5)]), task)
        self.assertIs(tuple, type(task))
        self.assertIs(list, type(task[3]))
        self.assertIs(tuple, type(task[3][0]))

    def test_any_order_of_terms_is_the_same_task(self):
        terms = [(0, 0, 1, 2), (0, 1, 0, -3), (1, 0, 0, 4), (1, 1, 1, 5)]
        for order in itertools.permutations(terms):
            self.assertEqual((2, 2, 2, terms), asked(self, task_of, 2, 2, 2, list(order)))

    def test_terms_rise_by_their_numbers(self):
        terms = [(10, 2, 2, 1), (2, 10, 2, 1), (2, 2, 10, 1), (9, 1, 1, 1)]
        wanted = [(2, 2, 10, 1), (2, 10, 2, 1), (9, 1, 1, 1), (10, 2, 2, 1)]
        self.assertEqual((11, 11, 11, wanted), asked(self, task_of, 11, 11, 11, terms))

    def test_terms_of_one_place_are_put_together(self):
        terms = [(1, 0, 0, 2), (0, 0, 0, 1), (1, 0, 0, 3), (1, 0, 0, -1)]
        self.assertEqual((1, 1, 2, [(0, 0, 0, 1), (1, 0, 0, 4)]), asked(self, task_of, 1, 1, 2, terms))

    def test_terms_that_come_to_nought_are_left_out(self):
        terms = [(0, 1, 0, 7), (0, 0, 0, 1), (0, 1, 0, -4), (0, 1, 0, -3)]
        self.assertEqual((2, 1, 1, [(0, 0, 0, 1)]), asked(self, task_of, 2, 1, 1, terms))

    def test_a_term_behind_a_sum_of_nought_still_counts(self):
        terms = [(0, 0, 0, 7), (0, 0, 0, -7), (0, 0, 0, 2)]
        self.assertEqual((1, 1, 1, [(0, 0, 0, 2)]), asked(self, task_of, 1, 1, 1, terms))

    def test_a_c_of_nought_is_left_out(self):
        self.assertEqual((1, 2, 1, [(0, 0, 1, 1)]), asked(self, task_of, 1, 2, 1, [(0, 0, 0, 0), (0, 0, 1, 1)]))

    def test_no_terms_at_all(self):
        self.assertEqual((3, 4, 5, []), asked(self, task_of, 3, 4, 5, []))
        self.assertEqual((3, 4, 5, []), asked(self, task_of, 3, 4, 5, [(0, 0, 0, 0)]))

    def test_great_numbers_either_way(self):
        terms = [(0, 0, 0, -GREAT), (0, 0, 1, GREAT), (0, 0, 0, -GREAT), (0, 0, 1, 1)]
        wanted = [(0, 0, 0, -2 * GREAT), (0, 0, 1, GREAT + 1)]
        self.assertEqual((1, 2, 1, wanted), asked(self, task_of, 1, 2, 1, terms))
        self.assertEqual((1, 1, 1, [(0, 0, 0, 10 ** 60)]), asked(self, task_of, 1, 1, 1, [(0, 0, 0, 10 ** 60)]))

    def test_a_told_task_may_be_handed_in_again(self):
        task = task_of(2, 2, 2, [(1, 1, 1, 3), (0, 0, 0, 2)])
        self.assertEqual(task, asked(self, task_of, *task))

    def test_lengths_of_81_and_a_thousand_terms(self):
        places = [(at * 7 % 81, at * 5 % 81, at % 81, at + 1) for at in range(1000)]
        sums = {}
        for k, i, j, c in places:
            sums[k, i, j] = sums.get((k, i, j), 0) + c
        wanted = sorted(place + (c,) for place, c in sums.items())
        self.assertEqual((81, 81, 81, wanted), asked(self, task_of, 81, 81, 81, places))


class ValueOf(unittest.TestCase):
    def test_sums_of_products(self):
        task = (2, 3, 2, [(0, 0, 0, 2), (0, 1, 2, -3), (1, 1, 1, 1)])
        self.assertEqual([2 * 5 * 11 - 3 * 7 * 17, 7 * 13], asked(self, value_of, task, [5, 7], [11, 13, 17]))

    def test_told_numbers_without_a_term_are_nought(self):
        self.assertEqual([0, 6, 0], asked(self, value_of, (1, 1, 3, [(1, 0, 0, 1)]), [2], [3]))

    def test_a_task_without_terms_tells_noughts(self):
        self.assertEqual([0, 0], asked(self, value_of, (1, 2, 2, []), [5], [6, 7]))

    def test_rows_of_noughts(self):
        task = table_task(2, 2, 2)
        self.assertEqual([0] * 4, asked(self, value_of, task, [0] * 4, [1, 2, 3, 4]))
        self.assertEqual([0] * 4, asked(self, value_of, task, [1, 2, 3, 4], [0] * 4))

    def test_one_row_as_both(self):
        row = [3, -4]
        self.assertEqual([9, -24, 16], asked(self, value_of, line_task(2, 2), row, row))

    def test_great_numbers_either_way(self):
        task = (1, 1, 2, [(0, 0, 0, GREAT), (1, 0, 0, -GREAT)])
        row = asked(self, value_of, task, [10 ** 40 + 1], [-10 ** 50])
        self.assertEqual([-GREAT * (10 ** 40 + 1) * 10 ** 50, GREAT * (10 ** 40 + 1) * 10 ** 50], row)

    def test_lengths_of_1_and_81(self):
        self.assertEqual([-30], asked(self, value_of, (1, 1, 1, [(0, 0, 0, -5)]), [2], [3]))
        one, other = numbers(81, 1, 10 ** 20), numbers(81, 2, 10 ** 20)
        task = (81, 81, 81, [(k, 80 - k, k, k + 1) for k in range(81)])
        wanted = [(k + 1) * one[80 - k] * other[k] for k in range(81)]
        self.assertEqual(wanted, asked(self, value_of, task, one, other))


class ToldTasks(unittest.TestCase):
    def rising(self, task):
        """Whether the task is one by [4]: terms rising, unlike places within, no c of 0."""
        left, right, many, terms = task
        places = [term[:3] for term in terms]
        self.assertEqual(sorted(set(places)), places)
        for k, i, j, c in terms:
            self.assertTrue(0 <= k < many and 0 <= i < left and 0 <= j < right and c != 0)

    def test_table_two_by_three_by_two(self):
        wanted = [(0, 0, 0, 1), (0, 1, 2, 1), (0, 2, 4, 1),
                  (1, 0, 1, 1), (1, 1, 3, 1), (1, 2, 5, 1),
                  (2, 3, 0, 1), (2, 4, 2, 1), (2, 5, 4, 1),
                  (3, 3, 1, 1), (3, 4, 3, 1), (3, 5, 5, 1)]
        self.assertEqual((6, 6, 4, wanted), asked(self, table_task, 2, 3, 2))

    def test_table_sizes_of_one(self):
        self.assertEqual((1, 1, 1, [(0, 0, 0, 1)]), asked(self, table_task, 1, 1, 1))
        self.assertEqual((2, 1, 2, [(0, 0, 0, 1), (1, 1, 0, 1)]), asked(self, table_task, 2, 1, 1))
        self.assertEqual((2, 2, 1, [(0, 0, 0, 1), (0, 1, 1, 1)]), asked(self, table_task, 1, 2, 1))
        self.assertEqual((1, 2, 2, [(0, 0, 0, 1), (1, 0, 1, 1)]), asked(self, table_task, 1, 1, 2))

    def test_table_values(self):
        for n, m, p in [(1, 1, 1), (2, 2, 2), (2, 3, 4), (4, 1, 3), (1, 5, 1), (9, 9, 9), (81, 1, 1), (1, 81, 1)]:
            task = asked(self, table_task, n, m, p)
            self.rising(task)
            one, other = numbers(n * m, n, 10 ** 20), numbers(m * p, p + 7, 10 ** 20)
            rows = [one[a * m:(a + 1) * m] for a in range(n)]
            columns = [other[c::p] for c in range(p)]
            wanted = [sum(x * y for x, y in zip(row, column)) for row in rows for column in columns]
            self.assertEqual((n * m, m * p, n * p), task[:3])
            self.assertEqual(n * m * p, len(task[3]))
            self.assertEqual(wanted, asked(self, value_of, task, one, other))

    def test_line_of_two_and_three(self):
        wanted = [(0, 0, 0, 1), (1, 0, 1, 1), (1, 1, 0, 1), (2, 0, 2, 1), (2, 1, 1, 1), (3, 1, 2, 1)]
        self.assertEqual((2, 3, 4, wanted), asked(self, line_task, 2, 3))

    def test_line_sizes_of_one(self):
        self.assertEqual((1, 1, 1, [(0, 0, 0, 1)]), asked(self, line_task, 1, 1))
        self.assertEqual((1, 3, 3, [(0, 0, 0, 1), (1, 0, 1, 1), (2, 0, 2, 1)]), asked(self, line_task, 1, 3))
        self.assertEqual((3, 1, 3, [(0, 0, 0, 1), (1, 1, 0, 1), (2, 2, 0, 1)]), asked(self, line_task, 3, 1))

    def test_line_values(self):
        for n, m in [(1, 1), (2, 2), (3, 5), (5, 3), (25, 25), (1, 81), (81, 1), (41, 41)]:
            task = asked(self, line_task, n, m)
            self.rising(task)
            one, other = numbers(n, n, 999), numbers(m, m + 7, 999)
            # A number in a base beyond all sums holds the whole row.
            base = 10 ** 12
            product = sum(x * base ** i for i, x in enumerate(one)) * sum(x * base ** j for j, x in enumerate(other))
            row = asked(self, value_of, task, one, other)
            self.assertEqual(product, sum(x * base ** k for k, x in enumerate(row)))
            self.assertEqual((n, m, n + m - 1, n * m), task[:3] + (len(task[3]),))
            self.assertTrue(all(abs(x) < base // 2 for x in row))

    def test_ring_of_three_by_both_turns(self):
        wanted = [(0, 0, 0, 1), (0, 1, 2, -1), (0, 2, 1, -1),
                  (1, 0, 1, 1), (1, 1, 0, 1), (1, 2, 2, -1),
                  (2, 0, 2, 1), (2, 1, 1, 1), (2, 2, 0, 1)]
        self.assertEqual((3, 3, 3, wanted), asked(self, ring_task, 3, -1))
        self.assertEqual((3, 3, 3, [(k, i, j, 1) for k, i, j, c in wanted]), asked(self, ring_task, 3, 1))

    def test_ring_of_one(self):
        for turn in (1, -1):
            self.assertEqual((1, 1, 1, [(0, 0, 0, 1)]), asked(self, ring_task, 1, turn))

    def test_ring_values(self):
        for n, turn in itertools.product([1, 2, 3, 8, 31], [1, -1]):
            task = asked(self, ring_task, n, turn)
            self.rising(task)
            one, other = numbers(n, n, 10 ** 20), numbers(n, n + 7, 10 ** 20)
            wanted = [0] * n
            for i, j in itertools.product(range(n), range(n)):
                at = i + j
                wanted[at if at < n else at - n] += one[i] * other[j] * (1 if at < n else turn)
            self.assertEqual((n, n, n), task[:3])
            self.assertEqual(wanted, asked(self, value_of, task, one, other))


if __name__ == "__main__":
    unittest.main()
