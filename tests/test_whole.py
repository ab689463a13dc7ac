"""The whole program: what its parts tell of one another holds together."""

import unittest

from asking import asked, numbers
from fewtimes.combining import (beside, cut, lines_within, tables_cut, tables_within, task_cut, task_within, within,
                                wound)
from fewtimes.desk import run
from fewtimes.fields import does_over, span_of
from fewtimes.great import long_product, row_times, table_times, times_for
from fewtimes.known import by_pairs, plain, seven
from fewtimes.least import least_over, least_paper
from fewtimes.moves import flipped, flips, tidied
from fewtimes.papers import shows_least
from fewtimes.programs import best_order, program_of, room_for
from fewtimes.reading import read_program
from fewtimes.running import run_program
from fewtimes.schemes import applied, does, fails_at, is_scheme, sums_in, task_by, times_in
from fewtimes.search import fewest_within, walked
from fewtimes.tasks import line_task, ring_task, table_task, value_of
from fewtimes.texts import scheme_from, scheme_text
from fewtimes.turning import (mirrored, tables_mirrored, tables_turned, task_mirrored, task_turned, turned)

TWO = (2, 2, 2)
FOUR = tables_within(seven(), TWO, seven(), TWO)


def best(scheme, seed):
    """The best scheme of a walk."""
    return walked(scheme, numbers(20, seed, 10 ** 12))[1]


# Schemes of each kind that the program tells, with their tasks.
KINDS = [
    (plain(table_task(2, 3, 2)), table_task(2, 3, 2)),
    (plain(line_task(3, 5)), line_task(3, 5)),
    (plain(ring_task(4, -1)), ring_task(4, -1)),
    (by_pairs(1), line_task(1, 1)),
    (by_pairs(6), line_task(6, 6)),
    (seven(), table_task(2, 2, 2)),
    (within(by_pairs(2), seven()), task_within(line_task(2, 2), table_task(2, 2, 2))),
    (FOUR, table_task(4, 4, 4)),
    (tables_within(plain(table_task(1, 2, 3)), (1, 2, 3), seven(), TWO), table_task(2, 4, 6)),
    (lines_within(by_pairs(3), 3, 3, by_pairs(2), 2), line_task(6, 6)),
    (lines_within(plain(line_task(2, 3)), 2, 3, by_pairs(2), 2), line_task(4, 6)),
    (beside(seven(), TWO, plain(table_task(1, 2, 2)), (1, 2, 2), 0), table_task(3, 2, 2)),
    (beside(seven(), TWO, plain(table_task(2, 1, 2)), (2, 1, 2), 1), table_task(2, 3, 2)),
    (beside(seven(), TWO, plain(table_task(2, 2, 3)), (2, 2, 3), 2), table_task(2, 2, 5)),
    (cut(by_pairs(4), [3, 0], [1, 2, 3], [4, 0, 2]), task_cut(line_task(4, 4), [3, 0], [1, 2, 3], [4, 0, 2])),
    (tables_cut(FOUR, (4, 4, 4), (3, 4, 2)), table_task(3, 4, 2)),
    (wound(by_pairs(5), 5, 1), ring_task(5, 1)),
    (wound(by_pairs(5), 5, -1), ring_task(5, -1)),
    (turned(by_pairs(3)), task_turned(line_task(3, 3))),
    (mirrored(plain(line_task(2, 3))), task_mirrored(line_task(2, 3))),
    (tables_turned(plain(table_task(2, 3, 4)), (2, 3, 4)), table_task(3, 4, 2)),
    (tables_mirrored(plain(table_task(2, 3, 4)), (2, 3, 4)), table_task(4, 3, 2)),
    (tidied(turned(seven())), task_turned(table_task(2, 2, 2))),
    (flipped(plain(line_task(3, 3)), flips(plain(line_task(3, 3)))[7]), line_task(3, 3)),
    (best(plain(line_task(3, 3)), 5), line_task(3, 3)),
    (best(FOUR, 6), table_task(4, 4, 4)),
    (best(tables_cut(FOUR, (4, 4, 4), (3, 3, 3)), 7), table_task(3, 3, 3)),
    (best(wound(lines_within(by_pairs(2), 2, 2, by_pairs(2), 2), 4, -1), 8), ring_task(4, -1)),
    (scheme_from(scheme_text(seven())), table_task(2, 2, 2)),
]


class EachKind(unittest.TestCase):
    def test_they_do_their_tasks(self):
        for scheme, task in KINDS:
            self.assertIs(True, is_scheme(scheme))
            self.assertIs(True, does(scheme, task))
            self.assertEqual(task, task_by(scheme))
            self.assertIsNone(fails_at(scheme, task))
            for p in (2, 3):
                self.assertIs(True, does_over(scheme, task, p))

    def test_applied_on_rows(self):
        for at, (scheme, task) in enumerate(KINDS):
            for bound in (1, 9, 10 ** 30):
                one, other = numbers(task[0], at, bound), numbers(task[1], at + 1, bound)
                self.assertEqual(value_of(task, one, other), asked(self, applied, scheme, one, other))

    def test_a_program_that_is_run(self):
        for at, (scheme, task) in enumerate(KINDS):
            many = times_in(scheme)
            for order in (list(range(many)), list(range(many))[::-1]):
                program = program_of(scheme, order)
                one, other = numbers(task[0], at, 10 ** 9), numbers(task[1], at + 1, 10 ** 9)
                row, times, sums, rooms = run_program(program, one, other, task[2])
                self.assertEqual(value_of(task, one, other), row)
                self.assertEqual((many, sums_in(scheme), room_for(scheme, order)), (times, sums, rooms))
                self.assertEqual(task, read_program(program, *task[:3]))
            if many <= 7:
                room, order = best_order(scheme)
                self.assertEqual(task, read_program(program_of(scheme, order), *task[:3]))

    def test_one_that_fails_tells_where(self):
        for scheme, task in KINDS:
            l, r, o = scheme[3][0]
            broken = (*scheme[:3], [(l, r, tuple(c + (k == o.index(max(o))) for k, c in enumerate(o)))] + scheme[3][1:])
            one, other = fails_at(broken, task)
            self.assertNotEqual(value_of(task, one, other), applied(broken, one, other))

    def test_texts(self):
        for scheme, task in KINDS:
            self.assertEqual(scheme, scheme_from(asked(self, scheme_text, scheme)))


class MadeMovedAndWalked(unittest.TestCase):
    def test_a_long_way(self):
        scheme = tables_within(seven(), TWO, plain(table_task(1, 2, 1)), (1, 2, 1))
        task = table_task(2, 4, 2)
        self.assertIs(True, does(scheme, task))
        for turn in range(6):
            there = flips(scheme)
            scheme = tidied(flipped(scheme, there[(7 * turn + 3) % len(there)]))
            self.assertIs(True, does(scheme, task))
        scheme = best(scheme, 3)
        self.assertIs(True, does(scheme, task))
        around = tables_turned(tables_turned(tables_turned(scheme, (2, 4, 2)), (4, 2, 2)), (2, 2, 4))
        self.assertEqual(scheme, around)
        beyond = beside(around, (2, 4, 2), plain(table_task(1, 4, 2)), (1, 4, 2), 0)
        self.assertIs(True, does(beyond, table_task(3, 4, 2)))
        self.assertIs(True, does(tables_cut(beyond, (3, 4, 2), (3, 3, 2)), table_task(3, 3, 2)))
        self.assertIs(True, does(best(tables_cut(beyond, (3, 4, 2), (3, 3, 2)), 4), table_task(3, 3, 2)))

    def test_no_move_makes_more_products(self):
        for scheme, task in KINDS[:8]:
            counts, found = walked(scheme, numbers(15, 3, 10 ** 6))
            self.assertEqual(sorted(counts, reverse=True), counts)
            self.assertLessEqual(counts[0], times_in(scheme))
            self.assertIs(True, does(found, task))

    def test_the_fewest_within_a_walk(self):
        for task in [line_task(2, 2), ring_task(2, 1), line_task(2, 3)]:
            fewest, path = fewest_within(plain(task), 2)
            chosen, scheme = [], plain(task)
            for flip in path:
                chosen.append(flips(scheme).index(flip))
                scheme = tidied(flipped(scheme, flip))
            counts, found = walked(plain(task), chosen)
            self.assertEqual((fewest, scheme), (counts[-1], found))


class LeastCounts(unittest.TestCase):
    def test_schemes_of_whole_numbers_have_no_fewer(self):
        for task in [line_task(2, 2), ring_task(2, -1), ring_task(2, 1), line_task(2, 3), ring_task(3, 1)]:
            for p in (2, 3):
                number = least_over(task, p)[1]
                for seed in range(5):
                    self.assertGreaterEqual(times_in(best(plain(task), seed)), number)

    def test_schemes_papers_and_what_shows_them(self):
        for task in [line_task(2, 2), ring_task(2, -1), ring_task(2, 1), line_task(2, 3), table_task(1, 2, 1)]:
            for p in (2, 3):
                word, count, scheme = least_over(task, p)
                self.assertEqual((word, count), ("least", times_in(scheme)))
                self.assertGreaterEqual(count, span_of(task, p))
                for number in range(count + 1):
                    self.assertIs(True, shows_least(task, p, number, least_paper(task, p, number)))
                self.assertIsNone(least_paper(task, p, count + 1))

    def test_made_tasks_take_no_more_than_told(self):
        one, other = line_task(1, 2), line_task(2, 1)
        for p in (2, 3):
            counts = [least_over(task, p) for task in (one, other, task_within(one, other))]
            self.assertLessEqual(counts[2][1], counts[0][1] * counts[1][1])
            made = within(counts[0][2], counts[1][2])
            self.assertIs(True, does_over(made, task_within(one, other), p))


class GreatOnes(unittest.TestCase):
    def test_rows_and_numbers_by_schemes_that_were_made(self):
        made = [(2, best(plain(line_task(2, 2)), 1)), (4, lines_within(by_pairs(2), 2, 2, by_pairs(2), 2)),
                (3, best(plain(line_task(3, 3)), 2)), (3, cut(by_pairs(4), [0, 1, 2], [0, 1, 2], [0, 1, 2, 3, 4]))]
        for n, scheme in made:
            one, other = numbers(17, n, 10 ** 9), numbers(17, n + 1, 10 ** 9)
            row, times = row_times(scheme, n, one, other)
            self.assertEqual(applied(plain(line_task(17, 17)), one, other), row)
            self.assertEqual(times_for(times_in(scheme), n, 17), times)
            self.assertEqual((12345678 * 87654321, times_for(times_in(scheme), n, 8)),
                             long_product(scheme, n, 12345678, 87654321, 10))

    def test_tables_by_schemes_that_were_made(self):
        made = [(2, best(plain(table_task(2, 2, 2)), 1)), (4, FOUR), (3, tables_cut(FOUR, (4, 4, 4), (3, 3, 3))),
                (3, beside(beside(beside(seven(), TWO, plain(table_task(1, 2, 2)), (1, 2, 2), 0), (3, 2, 2),
                                  plain(table_task(3, 1, 2)), (3, 1, 2), 1), (3, 3, 2),
                           plain(table_task(3, 3, 1)), (3, 3, 1), 2))]
        for n, scheme in made:
            self.assertIs(True, does(scheme, table_task(n, n, n)))
            one, other = numbers(81, n, 10 ** 9), numbers(81, n + 1, 10 ** 9)
            told, times = table_times(scheme, n, [one[at:at + 9] for at in range(0, 81, 9)],
                                      [other[at:at + 9] for at in range(0, 81, 9)])
            self.assertEqual(value_of(table_task(9, 9, 9), one, other), [x for row in told for x in row])
            self.assertEqual(times_for(times_in(scheme), n, 9), times)


class TheDesk(unittest.TestCase):
    def test_it_tells_what_the_functions_tell(self):
        rows = ["plain a line 3 3", "pairs b 3", "seven c", "within d c b", "turned e d", "mirrored f e", "tidied g f",
                "walked h a 5 17 3 999999999 0 8", "walked i g 1 2 3"]
        a, b, c = plain(line_task(3, 3)), by_pairs(3), seven()
        d = within(c, b)
        g = tidied(mirrored(turned(d)))
        schemes = {"a": a, "b": b, "c": c, "d": d, "e": turned(d), "f": mirrored(turned(d)), "g": g,
                   "h": walked(a, [5, 17, 3, 999999999, 0, 8])[1], "i": walked(g, [1, 2, 3])[1]}
        asks, wanted = [], []
        for name, scheme in schemes.items():
            asks += [f"times {name}", f"sums {name}", f"show {name}", f"task {name} line 3 3"]
            wanted += [str(times_in(scheme)), str(sums_in(scheme)), scheme_text(scheme).replace("\n", " / ")]
            if scheme[:3] == (3, 3, 5):
                rows_of_ones = fails_at(scheme, line_task(3, 3))
                self.assertIsNone(rows_of_ones)
                wanted.append("yes")
            else:
                wanted.append("no")
        self.assertEqual(wanted, asked(self, run, "\n".join(rows + asks)))

    def test_what_it_shows_is_read_again(self):
        told = asked(self, run, "seven a\npairs b 4\nturned c b\nshow a\nshow c")
        self.assertEqual([seven(), turned(by_pairs(4))], [scheme_from(row.replace(" / ", "\n")) for row in told])

    def test_it_tells_of_least_counts_and_long_numbers(self):
        for n, m in [(2, 2), (2, 3), (3, 3)]:
            for p in (2, 3):
                word, number = least_over(line_task(n, m), p)[:2]
                self.assertEqual([f"{word} {number}"], asked(self, run, f"least {p} line {n} {m}"))
        product, times = long_product(by_pairs(4), 4, 10 ** 30 + 1, 10 ** 9 - 7, 100)
        self.assertEqual([f"{product} {times}"],
                         asked(self, run, f"pairs a 4\nlong a 4 100 {10 ** 30 + 1} {10 ** 9 - 7}"))


if __name__ == "__main__":
    unittest.main()
