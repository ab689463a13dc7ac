"""[1], [2], [3] and [17]: tasks and schemes over the fields of two and of three numbers."""

import itertools
import unittest

from asking import asked, numbers, scheme_of
from fewtimes.fields import does_over, pairs_over, span_of
from fewtimes.known import by_pairs, plain
from fewtimes.schemes import does, task_by
from fewtimes.tasks import line_task, ring_task, table_task, task_of
from over import own_tables, task_with

# Lengths within the bounds, also those at them.
LENGTHS = [(1, 1), (1, 2), (2, 1), (2, 2), (1, 6), (6, 1), (2, 3), (3, 2), (3, 3)]
LENGTHS_OVER = [(left, right, p) for left, right in LENGTHS for p in (2, 3)] + \
               [(2, 4, 3), (4, 2, 3), (2, 6, 2), (6, 2, 2), (3, 4, 2), (4, 3, 2), (2, 5, 2)]


def is_independent(rows, p):
    """Whether no sum of multiples, but that of noughts alone, is of noughts: all are tried."""
    for shares in itertools.product(range(p), repeat=len(rows)):
        if any(shares) and not any(sum(c * row[at] for c, row in zip(shares, rows)) % p for at in range(len(rows[0]))):
            return False
    return True


def span_by_words(task, p):
    """How many tables can be chosen at most: all choices are tried."""
    rows = own_tables(task, p)
    return max(many for many in range(len(rows) + 1)
               if any(is_independent(chosen, p) for chosen in itertools.combinations(rows, many)))


class DoesOver(unittest.TestCase):
    def looked(self, scheme, task, p):
        """The answer, held against the terms of what the scheme does."""
        told = asked(self, does_over, scheme, task, p)
        own = {term[:3]: term[3] for term in task_by(scheme)[3]}
        asked_for = {term[:3]: term[3] for term in task[3]}
        alike = all((own.get(at, 0) - asked_for.get(at, 0)) % p == 0 for at in {**own, **asked_for})
        self.assertIs(alike and scheme[:3] == task[:3], told)
        return told

    def test_what_a_scheme_does_it_does_over_both(self):
        for task in [line_task(2, 2), ring_task(3, -1), table_task(1, 2, 2), (2, 3, 1, []), table_task(2, 1, 3)]:
            for p in (2, 3):
                self.assertIs(True, self.looked(plain(task), task, p))
        self.assertIs(True, self.looked(by_pairs(3), line_task(3, 3), 2))
        self.assertIs(True, self.looked(by_pairs(3), line_task(3, 3), 3))

    def test_over_2_and_not_over_3(self):
        # One ring is the other but for the signs, which are all alike over 2.
        self.assertIs(True, self.looked(plain(ring_task(3, -1)), ring_task(3, 1), 2))
        self.assertIs(False, self.looked(plain(ring_task(3, -1)), ring_task(3, 1), 3))
        self.assertIs(False, does(plain(ring_task(3, -1)), ring_task(3, 1)))

    def test_over_3_and_not_over_2(self):
        scheme = (1, 1, 1, [((1,), (1,), (4,))])
        task = (1, 1, 1, [(0, 0, 0, 1)])
        self.assertIs(True, self.looked(scheme, task, 3))
        self.assertIs(False, self.looked(scheme, task, 2))
        task = task_of(2, 2, 3, [(k, i, j, -2 * c) for k, i, j, c in line_task(2, 2)[3]])
        self.assertIs(True, self.looked(by_pairs(2), task, 3))
        self.assertIs(False, self.looked(by_pairs(2), task, 2))

    def test_numbers_alike_but_for_multiples(self):
        for p in (2, 3):
            for many in (-2000, -3, -1, 0, 1, 5, 3000):
                scheme = (2, 2, 1, [((1 + many * p, 0), (0, 1 - many * p), (1 + 2 * many * p,))])
                self.assertIs(True, self.looked(scheme, (2, 2, 1, [(0, 0, 1, 1)]), p))
                for c in (1 + p * 10 ** 14, 1 - p * 10 ** 14, 1 + p, 1 - p):
                    self.assertIs(True, self.looked(scheme, (2, 2, 1, [(0, 0, 1, c)]), p))
                    self.assertIs(False, self.looked(scheme, (2, 2, 1, [(0, 0, 1, c + 1)]), p))
                    self.assertIs(False, self.looked(scheme, (2, 2, 1, [(0, 1, 1, c)]), p))

    def test_terms_that_are_multiples_are_none(self):
        for p in (2, 3):
            self.assertIs(True, self.looked((2, 2, 2, []), (2, 2, 2, [(0, 1, 1, p), (1, 0, 0, -7 * p)]), p))
            self.assertIs(False, self.looked((2, 2, 2, []), (2, 2, 2, [(0, 1, 1, p), (1, 0, 0, 1 - p)]), p))
            scheme = (2, 2, 2, [((p, 0), (1, 1), (1, 5)), ((1, 1), (1, 1), (0, -p))])
            self.assertIs(True, self.looked(scheme, (2, 2, 2, []), p))
        self.assertIs(False, self.looked((1, 1, 1, []), (1, 1, 1, [(0, 0, 0, 2)]), 3))
        self.assertIs(False, self.looked((1, 1, 1, []), (1, 1, 1, [(0, 0, 0, 3)]), 2))

    def test_other_lengths(self):
        for lengths in [(3, 2, 2), (2, 3, 2), (2, 2, 3), (1, 2, 2), (2, 1, 2), (2, 2, 1)]:
            for p in (2, 3):
                self.assertIs(False, self.looked((2, 2, 2, []), (*lengths, []), p))
                self.assertIs(False, self.looked((*lengths, []), (2, 2, 2, []), p))
        self.assertIs(False, self.looked(plain(line_task(2, 3)), line_task(3, 2), 2))

    def test_many_schemes(self):
        did = 0
        for seed in range(40):
            p = 2 + seed % 2
            scheme = scheme_of(2, 2, 2, 3, 7 * seed, 10000)
            own = task_by(scheme)
            more = [p * x for x in numbers(8, seed, 10 ** 6)]
            places = list(itertools.product(range(2), repeat=3))
            task = task_of(2, 2, 2, own[3] + [(*at, x) for at, x in zip(places, more)])
            did += self.looked(scheme, task, p)
            self.looked(scheme, task, 5 - p)
            self.assertIs(False, self.looked(scheme, task_of(2, 2, 2, task[3] + [(1, 0, 1, 1)]), p))
        self.assertEqual(40, did)


class PairsOver(unittest.TestCase):
    def test_whole(self):
        one, two, both = (1, 0), (0, 1), (1, 1)
        self.assertEqual([((1,), (1,))], asked(self, pairs_over, 1, 1, 2))
        self.assertEqual([((1,), (1,))], asked(self, pairs_over, 1, 1, 3))
        self.assertEqual([((1,), two), ((1,), one), ((1,), both)], asked(self, pairs_over, 1, 2, 2))
        self.assertEqual([(two, (1,)), (one, (1,)), (both, (1,))], asked(self, pairs_over, 2, 1, 2))
        self.assertEqual([(two, two), (two, one), (two, both), (one, two), (one, one), (one, both),
                          (both, two), (both, one), (both, both)], asked(self, pairs_over, 2, 2, 2))
        last = (1, 2)
        self.assertEqual([(l, r) for l in (two, one, both, last) for r in (two, one, both, last)],
                         asked(self, pairs_over, 2, 2, 3))

    def test_by_the_documents_words(self):
        for left, right, p in LENGTHS_OVER:
            ls = [l for l in itertools.product(range(p), repeat=left) if any(l) and next(filter(None, l)) == 1]
            rs = [r for r in itertools.product(range(p), repeat=right) if any(r) and next(filter(None, r)) == 1]
            told = asked(self, pairs_over, left, right, p)
            self.assertEqual(sorted((l, r) for l in ls for r in rs), told)
            self.assertEqual(sorted(told), told)
            for pair in told:
                self.assertIs(tuple, type(pair))
                self.assertEqual([tuple, tuple], [type(part) for part in pair])

    def test_how_many(self):
        for left, right, p in LENGTHS_OVER:
            count = (p ** left - 1) // (p - 1) * ((p ** right - 1) // (p - 1))
            self.assertEqual(count, len(pairs_over(left, right, p)))
        self.assertEqual([9, 16, 105, 189, 169, 364],
                         [len(pairs_over(*handed)) for handed in [(2, 2, 2), (2, 2, 3), (3, 4, 2), (2, 6, 2),
                                                                  (3, 3, 3), (1, 6, 3)]])

    def test_no_table_twice(self):
        for left, right, p in LENGTHS_OVER:
            seen = {tuple(c * x * y % p for x in l for y in r)
                    for l, r in pairs_over(left, right, p) for c in range(1, p)}
            # Each table of a product that isn't of noughts, and each but once.
            self.assertEqual((p - 1) * len(pairs_over(left, right, p)), len(seen))


class SpanOf(unittest.TestCase):
    def span(self, task, p):
        """The answer, held against all choices of tables."""
        told = asked(self, span_of, task, p)
        self.assertEqual(span_by_words(task, p), told)
        return told

    def both(self, two, three, task):
        self.assertEqual((two, three), (self.span(task, 2), self.span(task, 3)))

    def test_no_terms(self):
        self.both(0, 0, (1, 1, 1, []))
        self.both(0, 0, (2, 3, 4, []))

    def test_one_table(self):
        self.both(1, 1, (1, 1, 1, [(0, 0, 0, 1)]))
        self.both(1, 1, (2, 2, 3, [(1, 0, 1, -5)]))

    def test_tables_of_noughts_but_for_multiples(self):
        self.both(0, 1, (1, 1, 1, [(0, 0, 0, 2)]))
        self.both(1, 0, (1, 1, 1, [(0, 0, 0, -3)]))
        self.both(0, 0, (2, 2, 2, [(0, 0, 0, 6), (0, 1, 1, -12), (1, 0, 1, 6 * 10 ** 14)]))
        self.both(1, 2, task_with(2, 1, (1, 1), (2, 4), (6, 0)))

    def test_alike(self):
        self.both(1, 1, task_with(2, 2, (1, 0, 1, 1), (1, 0, 1, 1), (1, 0, 1, 1)))
        self.both(2, 2, task_with(2, 2, (1, 0, 1, 1), (1, 0, 0, 1), (1, 0, 1, 1)))
        self.both(1, 2, task_with(2, 2, (1, 0, 1, 1), (3, 2, -1, 5)))
        self.both(2, 1, task_with(2, 2, (1, 0, 1, 1), (-2, 3, 1, 10)))

    def test_multiples(self):
        self.both(1, 1, task_with(1, 3, (1, 2, 0), (5, 10, 0), (-1, -2, 0)))
        # The double is of noughts over 2, the threefold over 3.
        self.both(1, 1, task_with(1, 3, (1, 1, 0), (2, 2, 0), (3, 3, 0)))
        self.both(2, 1, task_with(1, 3, (1, 2, 0), (2, 1, 0)))

    def test_sums(self):
        self.both(2, 2, task_with(1, 3, (1, 0, 1), (0, 1, 1), (1, 1, 2)))
        # Over 2 the third is the sum of the others, over 3 it isn't.
        self.both(2, 3, task_with(1, 3, (1, 0, 1), (0, 1, 1), (1, 1, 0)))
        # Over 3 it is the first and twice the second, over 2 it isn't.
        self.both(3, 2, task_with(1, 3, (1, 0, 1), (0, 1, 1), (1, 2, 0)))
        self.both(2, 2, task_with(1, 2, (1, 0), (0, 1), (1, 1), (1, 2), (2, 1)))

    def test_places_are_told_apart(self):
        # As many numbers, but another right length: (0, 2) and (1, 0) are not one place.
        self.both(2, 2, (2, 3, 2, [(0, 0, 2, 1), (1, 1, 0, 1)]))
        self.both(6, 6, task_of(3, 2, 6, [(k, k // 2, k % 2, 1) for k in range(6)]))

    def test_known_tasks(self):
        self.both(3, 3, line_task(2, 2))
        self.both(5, 5, line_task(3, 3))
        self.both(2, 2, ring_task(2, 1))
        self.both(3, 3, ring_task(3, -1))
        self.both(1, 1, table_task(1, 3, 1))
        self.both(2, 2, table_task(2, 2, 1))
        self.both(4, 4, table_task(2, 1, 2))
        self.both(2, 2, table_task(1, 2, 2))

    def test_many_tasks(self):
        unlike = 0
        for seed in range(60):
            left, right = [(1, 2), (2, 2), (2, 1), (1, 3), (2, 3)][seed % 5]
            many, bound = 1 + seed % 4, [1, 3, 10 ** 15][seed % 3]
            rows = [numbers(left * right, 100 * seed + k, bound) for k in range(many)]
            task = task_with(left, right, *rows)
            unlike += self.span(task, 2) != self.span(task, 3)
        self.assertGreater(unlike, 5)

    def test_at_the_bounds(self):
        rows = [tuple(int(at == k) for at in range(12)) for k in range(12)]
        self.assertEqual(12, asked(self, span_of, task_with(2, 6, *rows), 2))
        self.assertEqual(12, asked(self, span_of, task_with(3, 4, *rows * 6, *rows[:9]), 2))
        rows = [tuple(int(at == k) for at in range(9)) for k in range(9)]
        self.assertEqual(9, asked(self, span_of, task_with(3, 3, *rows * 9), 3))


if __name__ == "__main__":
    unittest.main()
