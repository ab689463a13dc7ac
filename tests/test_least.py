"""[1], [2], [3] and [18]: least counts of products over small fields, and papers that show them."""

import itertools
import math
import unittest

from asking import asked
from fewtimes.fields import does_over, pairs_over, span_of
from fewtimes.known import plain
from fewtimes.least import least_over, least_paper
from fewtimes.schemes import is_scheme
from fewtimes.tasks import line_task, ring_task, table_task, task_of
from fewtimes.turning import task_mirrored, task_turned
from over import all_sums, own_tables, pair_tables, some_task, task_with


def least_by_all_sets(task, p):
    """The least count, all sets of products being tried."""
    tables, wanted = pair_tables(*task[:2], p), own_tables(task, p)
    for count in itertools.count():
        for chosen in itertools.combinations(tables, count):
            sums = all_sums(chosen, task[0] * task[1], p)
            if all(row in sums for row in wanted):
                return count


def is_filled_by_pairs(task, p, chosen):
    """Whether all sums of the task's tables and the chosen pairs' are sums of the pairs' tables among them."""
    tables, length = pair_tables(*task[:2], p), task[0] * task[1]
    sums = all_sums(own_tables(task, p) + [tables[at] for at in chosen], length, p)
    return all_sums([table for table in tables if table in sums], length, p) == sums


SMALL = [some_task(*[(2, 2), (1, 3), (2, 1), (2, 3), (3, 2), (1, 1)][seed % 6], 1 + seed // 6 % 3, seed, 10 + seed)
         for seed in range(36)]


class LeastOver(unittest.TestCase):
    def least(self, task, p):
        """The answer, held against what the point says of its kind."""
        told = asked(self, least_over, task, p)
        self.assertIs(tuple, type(told))
        if told[0] == "least":
            word, count, scheme = told
            self.assertIs(True, is_scheme(scheme))
            self.assertEqual(task[:3], scheme[:3])
            self.assertEqual(count, len(scheme[3]))
            self.assertIs(True, does_over(scheme, task, p))
            self.assertTrue(all(0 <= x < p for product in scheme[3] for part in product for x in part))
        else:
            self.assertEqual(("open", told[1]), told)
            sets = math.comb(len(pairs_over(*task[:2], p)), told[1] - span_of(task, p))
            self.assertGreater(sets, 3000)
            sets = math.comb(len(pairs_over(*task[:2], p)), told[1] - span_of(task, p) - 1)
            self.assertLessEqual(sets, 3000)
        return told[:2]

    def both(self, two, three, task):
        self.assertEqual((("least", two), ("least", three)), (self.least(task, 2), self.least(task, 3)))

    def test_no_term_at_all(self):
        for left, right, many in [(1, 1, 1), (2, 3, 4), (3, 3, 1), (1, 6, 81)]:
            self.both(0, 0, (left, right, many, []))
            self.assertEqual(("least", 0, (left, right, many, [])), least_over((left, right, many, []), 2))

    def test_terms_of_multiples_alone(self):
        self.both(0, 0, (2, 2, 2, [(0, 0, 0, 6), (1, 0, 1, -6)]))
        self.both(0, 1, (2, 2, 2, [(0, 0, 0, 2), (1, 0, 0, -4)]))
        self.both(1, 0, (2, 2, 2, [(0, 0, 0, 3), (1, 0, 0, -9)]))

    def test_few_products(self):
        self.both(1, 1, (1, 1, 1, [(0, 0, 0, 1)]))
        self.both(1, 1, (1, 1, 2, [(0, 0, 0, 5), (1, 0, 0, -1)]))
        self.assertEqual(("least", 1, (1, 1, 1, [((1,), (1,), (2,))])), least_over((1, 1, 1, [(0, 0, 0, -1)]), 3))
        # All of one sum times another, on all told numbers.
        self.both(1, 1, task_with(2, 2, (1, 1, 1, 1), (-1, -1, -1, -1), (7, 7, 7, 7)))
        self.both(2, 2, task_with(2, 2, (1, 0, 0, 1)))
        # Twice the last table is of noughts over 2 alone.
        self.both(1, 2, task_with(2, 2, (1, 0, 0, 0), (0, 0, 0, 2)))

    def test_one_row_of_length_one(self):
        for many in range(1, 7):
            self.both(many, many, line_task(1, many))
            self.both(many, many, line_task(many, 1))

    def test_lines(self):
        self.both(3, 3, line_task(2, 2))
        # Over 2 there are too few numbers to put in for four products.
        self.both(5, 4, line_task(2, 3))
        self.both(5, 4, line_task(3, 2))
        self.both(6, 6, line_task(3, 3))
        self.both(6, 6, line_task(2, 4))
        self.both(6, 6, line_task(4, 2))

    def test_rings(self):
        self.both(1, 1, ring_task(1, 1))
        self.both(3, 2, ring_task(2, 1))
        self.both(3, 3, ring_task(2, -1))
        self.assertEqual(("least", 4), self.least(ring_task(3, 1), 2))
        self.assertEqual(("least", 4), self.least(ring_task(3, -1), 2))

    def test_tables(self):
        self.both(1, 1, table_task(1, 1, 1))
        self.both(2, 2, table_task(1, 2, 1))
        self.both(4, 4, table_task(2, 1, 2))
        self.both(6, 6, table_task(3, 1, 2))
        self.both(9, 9, table_task(3, 1, 3))
        for task, count in [(table_task(1, 2, 2), 4), (table_task(2, 2, 1), 4), (table_task(1, 3, 1), 3),
                            (table_task(6, 1, 2), 12), (table_task(3, 1, 4), 12)]:
            self.assertEqual(("least", count), self.least(task, 2))

    def test_open(self):
        # 93, 189 and 105 pairs over 2, 160 and 169 over 3: of each there are more than 3,000 sets of two.
        for task, p, number in [(line_task(2, 5), 2, 8), (line_task(2, 6), 2, 9), (line_task(6, 2), 2, 9),
                                (line_task(3, 4), 2, 8), (table_task(1, 2, 3), 2, 5), (table_task(3, 2, 1), 2, 5),
                                (ring_task(3, 1), 3, 5), (ring_task(3, -1), 3, 5), (table_task(1, 2, 2), 3, 4),
                                (table_task(1, 3, 1), 3, 3)]:
            self.assertEqual(("open", number), self.least(task, p))

    def test_open_where_no_set_before_is_filled(self):
        for task, p in [(table_task(1, 3, 1), 3), (table_task(1, 2, 2), 3), (ring_task(3, 1), 3)]:
            word, number = self.least(task, p)
            self.assertEqual("open", word)
            many = len(pairs_over(*task[:2], p))
            for e in range(number - span_of(task, p)):
                for chosen in itertools.combinations(range(many), e):
                    self.assertFalse(is_filled_by_pairs(task, p, chosen))

    def test_just_below_the_bound_of_sets(self):
        # 990 sets of two pairs, the last ones that may be looked at.
        self.assertEqual(45, len(pairs_over(2, 4, 2)))
        self.assertEqual(("least", 4), self.least(table_task(1, 2, 2), 2))
        # One table of rank three over 2, of 49 pairs: 1,176 sets of two.
        self.assertEqual(("least", 3), self.least(task_with(3, 3, (1, 1, 0, 0, 1, 1, 0, 0, 1)), 2))

    def test_against_all_sets(self):
        counts = set()
        for task in SMALL:
            for p in (2, 3):
                count = least_by_all_sets(task, p)
                self.assertEqual(("least", count), self.least(task, p))
                counts.add(count - span_of(task, p))
        self.assertGreaterEqual(len(counts), 2)

    def test_against_all_sets_of_known_tasks(self):
        for task in [line_task(2, 2), ring_task(2, 1), ring_task(2, -1), table_task(1, 2, 1), line_task(1, 3),
                     table_task(2, 1, 2), line_task(2, 3)]:
            for p in (2, 3):
                self.assertEqual(("least", least_by_all_sets(task, p)), self.least(task, p))

    def test_the_plain_scheme_has_no_fewer(self):
        for task in SMALL:
            for p in (2, 3):
                self.assertLessEqual(self.least(task, p)[1], len(plain(task)[3]))

    def test_turned_and_mirrored_tasks(self):
        tasks = [line_task(2, 2), line_task(2, 3), ring_task(2, 1), ring_task(2, -1), table_task(1, 2, 1)]
        tasks += [some_task(2, 2, 2, seed, 9) for seed in range(10)] + [some_task(2, 3, 2, seed, 9) for seed in range(4)]
        for task in tasks:
            for p in (2, 3):
                wanted = self.least(task, p)
                self.assertEqual("least", wanted[0])
                self.assertEqual(wanted, self.least(task_mirrored(task), p))
                for made in [task_turned(task), task_turned(task_turned(task))]:
                    if made[0] * made[1] <= 6:
                        self.assertEqual(wanted, self.least(made, p))
        for made in [task_turned(ring_task(3, 1)), task_mirrored(ring_task(3, 1))]:
            self.assertEqual(("least", 4), self.least(made, 2))

    def test_numbers_alike_but_for_multiples(self):
        for p in (2, 3):
            for task in [line_task(2, 2), ring_task(2, -1), line_task(2, 3)]:
                moved = task_of(*task[:3], [(k, i, j, c + p * (10 ** 14 - 7 * k)) for k, i, j, c in task[3]])
                other = task_of(*task[:3], [(k, i, j, c - p * (10 ** 14 - i)) for k, i, j, c in task[3]])
                self.assertEqual(least_over(task, p), least_over(moved, p))
                self.assertEqual(self.least(task, p), self.least(other, p))

    def test_many_tables(self):
        rows = [tuple(int(at == k) for at in range(4)) for k in range(4)]
        self.both(4, 4, task_with(2, 2, *rows * 20, (1, 1, 0, 0)))


class LeastPaper(unittest.TestCase):
    def paper(self, task, p, number):
        """The answer, where it is a paper held against the point's own words."""
        paper = asked(self, least_paper, task, p, number)
        if paper is None:
            return None
        self.assertIs(list, type(paper))
        e = number - 1 - span_of(task, p)
        if e < 0:
            self.assertEqual([], paper)
            return paper
        tables, length = pair_tables(*task[:2], p), task[0] * task[1]
        sets = sorted(chosen for chosen, table in paper)
        self.assertEqual(list(itertools.combinations(range(len(tables)), e)), sets)
        for entry in paper:
            self.assertEqual((tuple, 2), (type(entry), len(entry)))
            self.shown(task, p, *entry, tables, length)
        return paper

    def shown(self, task, p, chosen, table, tables, length):
        """One set's table, held against all sums."""
        self.assertIs(tuple, type(table))
        self.assertEqual(length, len(table))
        self.assertTrue(all(0 <= x < p for x in table))
        sums = all_sums(own_tables(task, p) + [tables[at] for at in chosen], length, p)

        def met(row):
            return sum(x * y for x, y in zip(table, row)) % p == 0
        self.assertTrue(all(met(row) for row in tables if row in sums))
        self.assertFalse(all(met(row) for row in sums))

    def test_number_0(self):
        for task in [(1, 1, 1, []), line_task(2, 2), ring_task(3, 1), table_task(1, 2, 3)]:
            for p in (2, 3):
                self.assertEqual([], self.paper(task, p, 0))

    def test_number_up_to_the_span(self):
        for task in [line_task(2, 2), ring_task(2, 1), table_task(2, 1, 2), line_task(2, 3)]:
            for p in (2, 3):
                for number in range(span_of(task, p) + 1):
                    self.assertEqual([], self.paper(task, p, number))

    def test_one_more_than_the_span(self):
        self.assertIsNone(self.paper(line_task(2, 2), 2, 4))
        self.assertIsNone(self.paper(ring_task(2, 1), 3, 3))
        self.assertIsNone(self.paper((2, 3, 4, []), 2, 1))
        self.assertEqual([()], [chosen for chosen, table in self.paper(ring_task(2, 1), 2, 3)])
        self.assertEqual([()], [chosen for chosen, table in self.paper(line_task(2, 3), 2, 5)])
        self.assertEqual([()], [chosen for chosen, table in self.paper(table_task(1, 3, 1), 3, 2)])
        self.assertEqual([()], [chosen for chosen, table in self.paper(ring_task(3, 1), 2, 4)])

    def test_the_least_count_itself_and_one_more(self):
        for task, p, count in [(line_task(2, 2), 2, 3), (line_task(2, 3), 2, 5), (line_task(2, 3), 3, 4),
                               (line_task(3, 3), 2, 6), (line_task(3, 3), 3, 6), (ring_task(3, 1), 2, 4),
                               (table_task(1, 2, 2), 2, 4), (table_task(1, 3, 1), 2, 3), (table_task(1, 2, 1), 3, 2),
                               ((2, 2, 2, []), 2, 0), (line_task(2, 4), 2, 6), (line_task(4, 2), 3, 6)]:
            self.assertIsNotNone(self.paper(task, p, count))
            self.assertIsNone(self.paper(task, p, count + 1))

    def test_none_where_the_least_count_is_less(self):
        for task, p, count in [(line_task(2, 2), 2, 3), (ring_task(2, -1), 3, 3), ((1, 1, 1, []), 2, 0),
                               (table_task(1, 2, 1), 2, 2), (line_task(1, 3), 3, 3)]:
            for number in list(range(count + 1, 30)) + [100, 10 ** 9]:
                self.assertIsNone(self.paper(task, p, number))

    def test_more_sets_than_are_looked_at(self):
        for task, p, number in [(ring_task(3, 1), 3, 5), (line_task(3, 4), 2, 8), (table_task(1, 2, 3), 2, 5),
                                (table_task(1, 3, 1), 3, 3)]:
            self.assertEqual(("open", number), least_over(task, p))
            # Of one pair fewer there are few enough.
            self.assertEqual(number - span_of(task, p) - 1, len(least_paper(task, p, number)[0][0]))
            self.assertIsNone(self.paper(task, p, number + 1))
            self.assertIsNone(self.paper(task, p, number + 5))

    def test_papers_of_one_pair(self):
        self.assertEqual(169, len(self.paper(table_task(1, 3, 1), 3, 3)))
        self.assertEqual(160, len(self.paper(table_task(2, 2, 1), 3, 4)))
        self.assertEqual(45, len(self.paper(table_task(1, 2, 2), 2, 4)))
        self.assertEqual(49, len(self.paper(table_task(1, 3, 1), 2, 3)))

    def test_against_the_least_count(self):
        for task in SMALL:
            for p in (2, 3):
                word, count, scheme = least_over(task, p)
                for number in range(count + 3):
                    self.assertEqual(number > count, self.paper(task, p, number) is None)

    def test_numbers_alike_but_for_multiples(self):
        for p in (2, 3):
            task = ring_task(2, -1)
            moved = task_of(*task[:3], [(k, i, j, c - p * (10 ** 14 - i)) for k, i, j, c in task[3]])
            for number in range(5):
                self.assertEqual(self.paper(task, p, number), self.paper(moved, p, number))


if __name__ == "__main__":
    unittest.main()
