"""[1], [2], [3] and [18]: papers that no fewer products do a task over a small field."""

import itertools
import unittest
from unittest import mock

from asking import asked, numbers
from fewtimes.fields import pairs_over, span_of
from fewtimes.least import least_over, least_paper
from fewtimes.papers import shows_least
from fewtimes.tasks import line_task, ring_task, table_task, task_of
from fewtimes.turning import task_turned
from over import all_sums, own_tables, pair_tables, some_task, task_with

# The product of the field of eight numbers: its tables are three, its least count over 2 is six at least.
EIGHT = task_with(3, 3, (1, 0, 0, 0, 0, 1, 0, 1, 0), (0, 1, 0, 1, 0, 1, 0, 1, 1), (0, 0, 1, 0, 1, 0, 1, 0, 1))

# Tasks whose papers have sets of none and of one pair, over 2 and over 3.
PAPERS = [(line_task(2, 3), 2, 5), (ring_task(2, 1), 2, 3), (ring_task(2, -1), 3, 3), (table_task(1, 2, 1), 3, 2),
          (table_task(1, 3, 1), 2, 3), (table_task(1, 2, 2), 2, 4), (table_task(1, 3, 1), 3, 3),
          (task_turned(task_turned(line_task(2, 3))), 2, 5)]


def met(one, other, p):
    """Whether the sum of products, by places, is a multiple of p."""
    return sum(x * y for x, y in zip(one, other)) % p == 0


def shown_by_words(task, p, number, paper):
    """What the point's words say of a paper; all sums are looked at."""
    left, right = task[:2]
    tables, length = pair_tables(left, right, p), left * right
    e = number - 1 - span_of(task, p)
    if e < 0:
        return paper == []
    if e > len(tables):
        return False
    if sorted(chosen for chosen, table in paper) != sorted(itertools.combinations(range(len(tables)), e)):
        return False
    for chosen, table in paper:
        if len(table) != length or not set(table) <= set(range(p)):
            return False
        sums = all_sums(own_tables(task, p) + [tables[at] for at in chosen], length, p)
        if not all(met(table, row, p) for row in tables if row in sums) or all(met(table, row, p) for row in sums):
            return False
    return True


class ShowsLeast(unittest.TestCase):
    def shows(self, task, p, number, paper):
        """The answer, held against the point's words."""
        told = asked(self, shows_least, task, p, number, paper)
        self.assertIs(shown_by_words(task, p, number, paper), told)
        return told

    def taken(self, *handed):
        self.assertIs(True, self.shows(*handed))

    def not_taken(self, *handed):
        self.assertIs(False, self.shows(*handed))

    def changed(self, task, p, number, at, entry):
        """Looks at the paper with one entry changed: it must not be taken."""
        paper = least_paper(task, p, number)
        self.assertNotEqual(paper[at], entry)
        self.not_taken(task, p, number, paper[:at] + [entry] + paper[at + 1:])

    def test_what_least_paper_tells(self):
        for task, p, number in PAPERS:
            self.taken(task, p, number, least_paper(task, p, number))

    def test_every_number_up_to_the_least_count(self):
        for seed in range(24):
            task = some_task(*[(2, 2), (1, 3), (2, 3), (3, 2)][seed % 4], 1 + seed % 3, seed, 20)
            for p in (2, 3):
                count = least_over(task, p)[1]
                for number in range(count + 1):
                    self.taken(task, p, number, least_paper(task, p, number))
                    # A paper of another number is none of this one, unless both are empty.
                    if number > span_of(task, p):
                        self.not_taken(task, p, number - 1, least_paper(task, p, number))
                self.not_taken(task, p, count + 1, least_paper(task, p, count))

    def test_sets_of_two_pairs(self):
        self.assertEqual(("open", 6), least_over(EIGHT, 2))
        paper = least_paper(EIGHT, 2, 6)
        self.assertEqual(1176, len(paper))
        self.taken(EIGHT, 2, 6, paper)
        self.taken(EIGHT, 2, 6, paper[::-1])
        (first, second), table = paper[700]
        for chosen in [(second, first), (first, first), (second, second), (first,), (first, second, second + 1), (),
                       (first, 49), (-1, second), (first, second + 1)]:
            self.assertIs(False, shows_least(EIGHT, 2, 6, paper[:700] + [(chosen, table)] + paper[701:]))
            self.assertIs(False, shows_least(EIGHT, 2, 6, paper + [(chosen, table)]))
        self.assertIs(False, shows_least(EIGHT, 2, 6, paper[:-1]))
        self.assertIs(False, shows_least(EIGHT, 2, 6, paper + paper[:1]))

    def test_more_sets_than_least_paper_looks_at(self):
        # Its least count is that of line_task(2, 3), five, with 5,460 sets of two pairs: least_paper tells no paper.
        task = task_turned(line_task(2, 3))
        self.assertIsNone(least_paper(task, 2, 5))
        with mock.patch("fewtimes.least.MOST_SETS", 6000):
            paper = least_paper(task, 2, 5)
        self.assertEqual(5460, len(paper))
        self.assertIs(True, shows_least(task, 2, 5, paper))
        self.assertIs(False, shows_least(task, 2, 5, paper[1:]))

    def test_rows_in_any_order(self):
        for task, p, number in PAPERS:
            paper = least_paper(task, p, number)
            self.taken(task, p, number, paper[::-1])
            mixed = [entry for key, entry in sorted(zip(numbers(len(paper), number, 10 ** 9), paper))]
            self.taken(task, p, number, mixed)

    def test_a_set_left_out(self):
        for task, p, number in PAPERS:
            paper = least_paper(task, p, number)
            for at in {0, len(paper) // 2, len(paper) - 1}:
                self.not_taken(task, p, number, paper[:at] + paper[at + 1:])
            self.not_taken(task, p, number, [])

    def test_a_set_twice(self):
        for task, p, number in PAPERS:
            paper = least_paper(task, p, number)
            self.not_taken(task, p, number, paper + paper[:1])
            self.not_taken(task, p, number, paper + paper)
            if len(paper) > 1:
                # In place of another one, so that their number is right.
                self.not_taken(task, p, number, paper[:-1] + paper[:1])

    def test_a_set_with_another_table_twice(self):
        task = table_task(1, 2, 1)
        paper = least_paper(task, 3, 2)
        self.assertEqual(1, len(paper))
        for shown in itertools.product(range(3), repeat=4):
            if self.shows(task, 3, 2, [((), shown)]):
                self.not_taken(task, 3, 2, paper + [((), shown)])

    def test_a_set_of_another_length(self):
        for task, p, number in PAPERS:
            paper = least_paper(task, p, number)
            chosen, table = paper[-1]
            self.changed(task, p, number, len(paper) - 1, (chosen + (len(pairs_over(*task[:2], p)) - 1,), table))
            self.changed(task, p, number, len(paper) - 1, (chosen + (0, 1), table))
            if chosen:
                self.changed(task, p, number, len(paper) - 1, (chosen[1:], table))

    def test_a_number_beyond_the_pairs(self):
        task = table_task(1, 3, 1)
        for at in (0, 20, 48):
            table = least_paper(task, 2, 3)[at][1]
            for x in (-1, -49, 49, 50, 10 ** 30, at - 49):
                self.changed(task, 2, 3, at, ((x,), table))

    def test_a_table_of_another_length(self):
        for task, p, number in PAPERS:
            chosen, table = least_paper(task, p, number)[0]
            for other in [table[:-1], table[1:], table + (0,), table + (1,), (0,) + table, ()]:
                self.changed(task, p, number, 0, (chosen, other))

    def test_a_number_beyond_the_field(self):
        # Alike but for multiples of p, yet not from 0 to p - 1.
        for task, p, number in PAPERS:
            paper = least_paper(task, p, number)
            at = len(paper) // 2
            chosen, table = paper[at]
            for place in (0, 1, len(table) - 1):
                for more in (-p, p, p * 10 ** 20):
                    other = table[:place] + (table[place] + more,) + table[place + 1:]
                    self.changed(task, p, number, at, (chosen, other))

    def test_a_table_that_misses_a_pairs_table_or_meets_all_sums(self):
        # All tables there are, of one set at a time: which of them are taken is told by the words.
        for task, p, number in [(ring_task(2, 1), 2, 3), (ring_task(2, -1), 3, 3), (line_task(2, 3), 2, 5)]:
            length = task[0] * task[1]
            told = [self.shows(task, p, number, [((), table)]) for table in itertools.product(range(p), repeat=length)]
            self.assertEqual({True, False}, set(told))
        # Among the sums of the ring's two tables there is, over 2, the pair's table of ones alone.
        self.not_taken(ring_task(2, 1), 2, 3, [((), (1, 0, 0, 0))])
        self.not_taken(ring_task(2, 1), 2, 3, [((), (0, 0, 0, 0))])
        self.not_taken(ring_task(2, 1), 2, 3, [((), (1, 0, 0, 1))])
        self.taken(ring_task(2, 1), 2, 3, [((), (1, 1, 0, 0))])

    def test_one_table_of_many_that_is_wrong(self):
        task = table_task(1, 3, 1)
        paper = least_paper(task, 2, 3)
        for at in (0, 25, 48):
            told = []
            for table in itertools.product(range(2), repeat=9):
                told.append(shows_least(task, 2, 3, paper[:at] + [(paper[at][0], table)] + paper[at + 1:]))
            self.assertEqual({True, False}, set(told))
            self.changed(task, 2, 3, at, (paper[at][0], (0,) * 9))
            wrong = [table for table, taken in zip(itertools.product(range(2), repeat=9), told) if not taken]
            for table in wrong[::60]:
                self.changed(task, 2, 3, at, (paper[at][0], table))
            right = [table for table, taken in zip(itertools.product(range(2), repeat=9), told) if taken]
            self.taken(task, 2, 3, paper[:at] + [(paper[at][0], right[-1])] + paper[at + 1:])

    def test_where_e_is_below_nought(self):
        for task in [(1, 1, 1, []), line_task(2, 2), ring_task(2, 1), line_task(2, 3)]:
            for p in (2, 3):
                for number in range(span_of(task, p) + 1):
                    self.taken(task, p, number, [])
                    for paper in [[((), ())], [((), (0,) * (task[0] * task[1]))], [((0,), (1,) * (task[0] * task[1]))]]:
                        self.not_taken(task, p, number, paper)

    def test_number_0(self):
        for p in (2, 3):
            self.taken((2, 2, 2, []), p, 0, [])
            self.taken(line_task(2, 2), p, 0, [])
            self.not_taken((2, 2, 2, []), p, 0, [((), (1, 0, 0, 0))])
            # No term, one product: the empty set has no sum but noughts, so no table will do.
            self.not_taken((2, 2, 2, []), p, 1, [])
            for table in itertools.product(range(p), repeat=4):
                self.not_taken((2, 2, 2, []), p, 1, [((), table)])

    def test_where_e_is_above_how_many_pairs_there_are(self):
        for p in (2, 3):
            # One pair: with e 1 there is one set, with e 2 none.
            for number in (3, 4, 100, 10 ** 9):
                self.not_taken((1, 1, 1, []), p, number, [])
                self.not_taken((1, 1, 1, []), p, number, [((0,), (1,))])
            for number in (2, 3):
                self.not_taken((1, 1, 1, [(0, 0, 0, 1)]), p, number, [])
            self.not_taken((1, 1, 1, []), p, 2, [((0,), (1,))])
            self.not_taken((1, 1, 1, []), p, 2, [])
            many = len(pairs_over(2, 2, p))
            self.not_taken(line_task(2, 2), p, 4 + many, [])
            self.not_taken(line_task(2, 2), p, 4 + many + 1, [])
            self.not_taken(line_task(2, 2), p, 4 + many, [(tuple(range(many)), (1, 0, 0, 0))])

    def test_one_ps_paper_is_none_of_the_others(self):
        # Over 2 the ring takes three products, over 3 two: no paper of three is one there.
        paper = least_paper(ring_task(2, 1), 2, 3)
        self.taken(ring_task(2, 1), 2, 3, paper)
        self.not_taken(ring_task(2, 1), 3, 3, paper)
        for table in itertools.product(range(3), repeat=4):
            self.not_taken(ring_task(2, 1), 3, 3, [((), table)])

    def test_numbers_alike_but_for_multiples(self):
        for p in (2, 3):
            task = ring_task(2, -1)
            paper = least_paper(task, p, 3)
            moved = task_of(*task[:3], [(k, i, j, c - p * (10 ** 14 - i)) for k, i, j, c in task[3]])
            self.taken(moved, p, 3, paper)

    def test_a_paper_of_another_task(self):
        paper = least_paper(ring_task(2, 1), 2, 3)
        self.not_taken(line_task(2, 2), 2, 3, paper)
        self.not_taken(line_task(2, 2), 2, 4, paper)
        self.not_taken(table_task(1, 2, 1), 2, 3, paper)


if __name__ == "__main__":
    unittest.main()
