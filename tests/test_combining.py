"""[2], [3], [9] and [10]: tasks and schemes made out of others."""

import itertools
import unittest

from asking import asked, numbers, scheme_of
from fewtimes.combining import (beside, cut, lines_within, tables_cut, tables_within, task_cut, task_within, within,
                                wound)
from fewtimes.known import by_pairs, plain, seven
from fewtimes.schemes import applied, does, is_scheme, task_by, times_in
from fewtimes.tasks import line_task, ring_task, table_task, task_of, value_of

OUTER = (2, 1, 2, [((1, -2), (3,), (0, 1)), ((0, 5), (7,), (-1, 4))])
INNER = (1, 2, 3, [((2,), (1, 10), (1, 0, -1)), ((-3,), (0, 2), (6, 8, 0)), ((1,), (1, 1), (1, 1, 1))])


def tables(n, m, p):
    """The plain scheme of an n by m table with an m by p one."""
    return plain(table_task(n, m, p))


def as_grid(part, columns):
    """A part as a list of rows of a table."""
    return [list(part[at:at + columns]) for at in range(0, len(part), columns)]


def spread(outer, columns, inner, wide):
    """The table, held as a row, whose block at each of outer's numbers is that number times inner's table."""
    rows = [[x * y for x in line for y in small]
            for line in as_grid(outer, columns) for small in as_grid(inner, wide)]
    return tuple(x for row in rows for x in row)


class TaskWithin(unittest.TestCase):
    def test_each_place_and_number(self):
        outer = task_of(2, 3, 2, [(0, 1, 2, 5), (1, 0, 1, -7)])
        inner = task_of(3, 2, 4, [(3, 2, 1, 2), (0, 1, 0, 11)])
        wanted = [(0, 4, 4, 55), (3, 5, 5, 10), (4, 1, 2, -77), (7, 2, 3, -14)]
        self.assertEqual((6, 6, 8, wanted), asked(self, task_within, outer, inner))

    def test_terms_rise(self):
        # One told number of outer, several of inner: terms of one k come from several of outer's.
        outer = task_of(2, 2, 1, [(0, 0, 1, 1), (0, 1, 0, 1)])
        inner = task_of(1, 1, 2, [(0, 0, 0, 1), (1, 0, 0, 1)])
        wanted = [(0, 0, 1, 1), (0, 1, 0, 1), (1, 0, 1, 1), (1, 1, 0, 1)]
        self.assertEqual((2, 2, 2, wanted), asked(self, task_within, outer, inner))

    def test_a_term_for_each_term_of_either(self):
        for outer, inner in itertools.product([line_task(2, 3), ring_task(3, -1), table_task(1, 2, 3)], repeat=2):
            left, right, many, terms = inner
            wanted = sorted((K * many + k, I * left + i, J * right + j, C * c)
                            for K, I, J, C in outer[3] for k, i, j, c in terms)
            lengths = tuple(x * y for x, y in zip(outer[:3], inner[:3]))
            self.assertEqual((*lengths, wanted), asked(self, task_within, outer, inner))

    def test_no_terms_on_either_side(self):
        self.assertEqual((4, 6, 15, []), asked(self, task_within, (2, 2, 3, []), line_task(2, 3)[:2] + (5, [])))
        self.assertEqual((4, 6, 12, []), asked(self, task_within, (2, 2, 3, []), line_task(2, 3)))
        self.assertEqual((4, 6, 12, []), asked(self, task_within, line_task(2, 3), (2, 2, 3, [])))

    def test_within_a_task_of_one_number(self):
        task = task_of(2, 3, 4, [(3, 1, 2, -9), (0, 0, 0, 8)])
        one = (1, 1, 1, [(0, 0, 0, 1)])
        self.assertEqual(task, asked(self, task_within, one, task))
        self.assertEqual(task, asked(self, task_within, task, one))

    def test_great_numbers(self):
        outer, inner = (1, 1, 1, [(0, 0, 0, 10 ** 15)]), (1, 1, 1, [(0, 0, 0, -10 ** 15)])
        self.assertEqual((1, 1, 1, [(0, 0, 0, -10 ** 30)]), asked(self, task_within, outer, inner))

    def test_one_task_as_both(self):
        task = line_task(2, 2)
        told = asked(self, task_within, task, task)
        self.assertEqual((4, 4, 9), told[:3])
        self.assertEqual(16, len(told[3]))


class Within(unittest.TestCase):
    def test_products_in_order(self):
        wanted = [((2, -4), (3, 30), (0, 0, 0, 1, 0, -1)),
                  ((-3, 6), (0, 6), (0, 0, 0, 6, 8, 0)),
                  ((1, -2), (3, 3), (0, 0, 0, 1, 1, 1)),
                  ((0, 10), (7, 70), (-1, 0, 1, 4, 0, -4)),
                  ((0, -15), (0, 14), (-6, -8, 0, 24, 32, 0)),
                  ((0, 5), (7, 7), (-1, -1, -1, 4, 4, 4))]
        self.assertEqual((2, 2, 6, wanted), asked(self, within, OUTER, INNER))

    def test_number_by_number(self):
        outer, inner = scheme_of(2, 3, 4, 3, 5, 9), scheme_of(5, 2, 3, 4, 6, 9)
        told = asked(self, within, outer, inner)
        self.assertEqual((10, 6, 12), told[:3])
        self.assertEqual(12, times_in(told))
        for at, product in enumerate(told[3]):
            for side in range(3):
                big, small = outer[3][at // 4][side], inner[3][at % 4][side]
                for block in range(outer[side]):
                    for place in range(inner[side]):
                        self.assertEqual(big[block] * small[place], product[side][block * inner[side] + place])

    def test_no_products_on_either_side(self):
        self.assertEqual((2, 2, 6, []), asked(self, within, OUTER, (1, 2, 3, [])))
        self.assertEqual((2, 2, 6, []), asked(self, within, (2, 1, 2, []), INNER))
        self.assertEqual((2, 4, 9, []), asked(self, within, (2, 2, 3, []), (1, 2, 3, [])))

    def test_parts_of_noughts_are_kept(self):
        outer = (1, 1, 1, [((0,), (1,), (1,))])
        self.assertEqual((1, 2, 3, [((0,), r, o) for l, r, o in INNER[3]]), asked(self, within, outer, INNER))

    def test_it_does_task_within_of_what_they_do(self):
        for outer, inner in [(OUTER, INNER), (INNER, OUTER), (seven(), by_pairs(3)), (by_pairs(2), by_pairs(3)),
                             (scheme_of(3, 2, 2, 4, 1, 3), scheme_of(2, 4, 3, 5, 2, 3)), ((2, 1, 2, []), INNER)]:
            made = asked(self, within, outer, inner)
            self.assertIs(True, is_scheme(made))
            self.assertEqual(task_within(task_by(outer), task_by(inner)), task_by(made))
            self.assertEqual(times_in(outer) * times_in(inner), times_in(made))

    def test_one_scheme_as_both(self):
        scheme = seven()
        self.assertEqual(49, times_in(asked(self, within, scheme, scheme)))

    def test_lengths_of_81_and_400_products(self):
        outer, inner = scheme_of(9, 9, 9, 20, 3, 10000), scheme_of(9, 9, 9, 20, 4, 10000)
        made = asked(self, within, outer, inner)
        self.assertIs(True, is_scheme(made))
        self.assertEqual(400, times_in(made))


class TablesWithin(unittest.TestCase):
    def made(self, outer, sizes, inner, others):
        """What is told, with its products held against tables of blocks."""
        told = asked(self, tables_within, outer, sizes, inner, others)
        self.assertIs(True, is_scheme(told))
        (n, m, p), (a, b, c) = sizes, others
        wanted = []
        for l, r, o in outer[3]:
            for x, y, z in inner[3]:
                wanted.append((spread(l, m, x, b), spread(r, p, y, c), spread(o, p, z, c)))
        self.assertEqual((n * a * m * b, m * b * p * c, n * a * p * c, wanted), told)
        return told

    def test_place_by_place(self):
        outer = (2, 2, 1, [((2, 3), (5, 7), (11,))])
        inner = (2, 2, 4, [((1, 10), (1, 10), (1, 10, 100, 1000))])
        # The left one is 2 by 2: two blocks side by side, each a column; the right one 2 by 2 of blocks that are rows.
        wanted = ((2, 3, 20, 30), (5, 50, 7, 70), (11, 110, 1100, 11000))
        self.assertEqual((4, 4, 4, [wanted]), asked(self, tables_within, outer, (1, 2, 1), inner, (2, 1, 2)))

    def test_unlike_sizes(self):
        for sizes, others in [((2, 3, 1), (3, 1, 2)), ((1, 2, 3), (2, 3, 1)), ((3, 1, 2), (1, 3, 2)),
                              ((1, 2, 3), (4, 2, 3)), ((2, 3, 4), (1, 2, 3)), ((4, 1, 3), (1, 5, 2)),
                              ((2, 3, 4), (3, 1, 2))]:
            made = self.made(tables(*sizes), sizes, tables(*others), others)
            self.assertIs(True, does(made, table_task(*[x * y for x, y in zip(sizes, others)])))

    def test_sizes_of_one(self):
        ones = tables(1, 1, 1)
        self.assertEqual(seven(), self.made(ones, (1, 1, 1), seven(), (2, 2, 2)))
        self.assertEqual(seven(), self.made(seven(), (2, 2, 2), ones, (1, 1, 1)))
        self.assertEqual(ones, self.made(ones, (1, 1, 1), ones, (1, 1, 1)))
        made = self.made(tables(1, 3, 1), (1, 3, 1), tables(2, 1, 3), (2, 1, 3))
        self.assertIs(True, does(made, table_task(2, 3, 3)))

    def test_seven_within_seven(self):
        scheme = seven()
        made = self.made(scheme, (2, 2, 2), scheme, (2, 2, 2))
        self.assertEqual(49, times_in(made))
        self.assertIs(True, does(made, table_task(4, 4, 4)))
        one, other = numbers(16, 1, 10 ** 9), numbers(16, 2, 10 ** 9)
        self.assertEqual(value_of(table_task(4, 4, 4), one, other), applied(made, one, other))

    def test_seven_around_and_within_unlike_tables(self):
        made = self.made(seven(), (2, 2, 2), tables(1, 3, 4), (1, 3, 4))
        self.assertEqual(84, times_in(made))
        self.assertIs(True, does(made, table_task(2, 6, 8)))
        made = self.made(tables(1, 3, 4), (1, 3, 4), seven(), (2, 2, 2))
        self.assertIs(True, does(made, table_task(2, 6, 8)))

    def test_other_numbers_than_one(self):
        outer = scheme_of(6, 3, 2, 3, 21, 10000)
        inner = scheme_of(2, 6, 3, 2, 22, 10000)
        self.made(outer, (2, 3, 1), inner, (1, 2, 3))

    def test_no_products(self):
        self.made((6, 3, 2, []), (2, 3, 1), tables(1, 2, 3), (1, 2, 3))
        self.made(tables(2, 3, 1), (2, 3, 1), (2, 6, 3, []), (1, 2, 3))

    def test_nine_by_nine_tables(self):
        outer = tables(3, 3, 3)[:3] + (tables(3, 3, 3)[3][:20],)
        inner = tables(3, 3, 3)[:3] + (tables(3, 3, 3)[3][7:],)
        self.made(outer, (3, 3, 3), inner, (3, 3, 3))


class LinesWithin(unittest.TestCase):
    def made(self, outer, n, m, inner, b):
        """What is told, with its products held against the words of the document."""
        told = asked(self, lines_within, outer, n, m, inner, b)
        self.assertIs(True, is_scheme(told))
        wanted = []
        for l, r, o in within(outer, inner)[3]:
            row = [0] * (n * b + m * b - 1)
            for block in range(n + m - 1):
                for k in range(2 * b - 1):
                    row[block * b + k] += o[block * (2 * b - 1) + k]
            wanted.append((l, r, tuple(row)))
        self.assertEqual((n * b, m * b, n * b + m * b - 1, wanted), told)
        return told

    def test_neighbouring_blocks_are_put_together_where_they_meet(self):
        outer = (2, 1, 2, [((1, 2), (3,), (2, 5))])
        inner = (2, 2, 3, [((1, 4), (5, 6), (1, 10, 100))])
        wanted = [((1, 4, 2, 8), (15, 18), (2, 20, 200 + 5, 50, 500))]
        self.assertEqual((4, 2, 5, wanted), asked(self, lines_within, outer, 2, 1, inner, 2))

    def test_three_numbers_a_block(self):
        outer = (1, 2, 2, [((1,), (1, 1), (2, 3))])
        inner = (3, 3, 5, [((1, 0, 0), (0, 1, 0), (1, 10, 100, 1000, 10000))])
        wanted = [((1, 0, 0), (0, 1, 0, 0, 1, 0), (2, 20, 200, 2003, 20030, 300, 3000, 30000))]
        self.assertEqual((3, 6, 8, wanted), asked(self, lines_within, outer, 1, 2, inner, 3))

    def test_numbers_that_come_to_nought_where_they_meet(self):
        outer = (2, 1, 2, [((1, 0), (1,), (1, -1))])
        inner = (2, 2, 3, [((1, 0), (1, 0), (7, 0, 7))])
        wanted = [((1, 0, 0, 0), (1, 0), (7, 0, 0, 0, -7))]
        self.assertEqual((4, 2, 5, wanted), asked(self, lines_within, outer, 2, 1, inner, 2))

    def test_unlike_sizes(self):
        for n, m, b in [(2, 3, 4), (3, 2, 4), (4, 2, 3), (1, 3, 2), (3, 1, 2), (2, 5, 3)]:
            made = self.made(plain(line_task(n, m)), n, m, by_pairs(b), b)
            self.assertEqual(n * m * b * (b + 1) // 2, times_in(made))
            self.assertIs(True, does(made, line_task(n * b, m * b)))

    def test_sizes_of_one(self):
        self.assertEqual(by_pairs(4), self.made(by_pairs(4), 4, 4, by_pairs(1), 1))
        self.assertEqual(by_pairs(4), self.made(by_pairs(1), 1, 1, by_pairs(4), 4))
        self.assertEqual(by_pairs(1), self.made(by_pairs(1), 1, 1, by_pairs(1), 1))
        self.assertEqual(plain(line_task(2, 3)), self.made(plain(line_task(2, 3)), 2, 3, by_pairs(1), 1))

    def test_pairs_within_pairs(self):
        made = self.made(by_pairs(2), 2, 2, by_pairs(2), 2)
        self.assertEqual(9, times_in(made))
        self.assertIs(True, does(made, line_task(4, 4)))
        scheme = by_pairs(3)
        made = self.made(scheme, 3, 3, scheme, 3)
        self.assertEqual(36, times_in(made))
        one, other = numbers(9, 1, 10 ** 9), numbers(9, 2, 10 ** 9)
        self.assertEqual(value_of(line_task(9, 9), one, other), applied(made, one, other))

    def test_other_numbers_than_one(self):
        self.made(scheme_of(2, 3, 4, 4, 8, 10000), 2, 3, scheme_of(4, 4, 7, 3, 9, 10000), 4)

    def test_no_products(self):
        self.made((2, 3, 4, []), 2, 3, by_pairs(2), 2)
        self.made(plain(line_task(2, 3)), 2, 3, (2, 2, 3, []), 2)


class Beside(unittest.TestCase):
    def test_each_side_number_by_number(self):
        one = (6, 12, 8, [(tuple(range(1, 7)), tuple(range(11, 23)), tuple(range(31, 39)))])
        other = (3, 12, 4, [((-1, -2, -3), tuple(range(-12, 0)), (-4, -5, -6, -7))])
        wanted = [((1, 2, 3, 4, 5, 6, 0, 0, 0), one[3][0][1], tuple(range(31, 39)) + (0,) * 4),
                  ((0,) * 6 + (-1, -2, -3), other[3][0][1], (0,) * 8 + (-4, -5, -6, -7))]
        self.assertEqual((9, 12, 12, wanted), asked(self, beside, one, (2, 3, 4), other, (1, 3, 4), 0))

        other = (2, 4, 8, [((-1, -2), (-3, -4, -5, -6), tuple(range(-8, 0)))])
        wanted = [((1, 2, 3, 0, 4, 5, 6, 0), one[3][0][1] + (0,) * 4, one[3][0][2]),
                  ((0, 0, 0, -1, 0, 0, 0, -2), (0,) * 12 + (-3, -4, -5, -6), other[3][0][2])]
        self.assertEqual((8, 16, 8, wanted), asked(self, beside, one, (2, 3, 4), other, (2, 1, 4), 1))

        other = (6, 3, 2, [(tuple(range(-6, 0)), (-1, -2, -3), (-4, -5))])
        wanted = [(one[3][0][0], (11, 12, 13, 14, 0, 15, 16, 17, 18, 0, 19, 20, 21, 22, 0),
                   (31, 32, 33, 34, 0, 35, 36, 37, 38, 0)),
                  (other[3][0][0], (0, 0, 0, 0, -1, 0, 0, 0, 0, -2, 0, 0, 0, 0, -3),
                   (0, 0, 0, 0, -4, 0, 0, 0, 0, -5))]
        self.assertEqual((6, 15, 10, wanted), asked(self, beside, one, (2, 3, 4), other, (2, 3, 1), 2))

    def test_the_tasks_it_does(self):
        for sizes in [(2, 3, 4), (4, 2, 3), (1, 1, 1), (1, 2, 3), (3, 3, 3)]:
            for side in range(3):
                for more in (1, 2, 5):
                    others, whole = list(sizes), list(sizes)
                    others[side] = more
                    whole[side] += more
                    one, other = tables(*sizes), tables(*others)
                    made = asked(self, beside, one, sizes, other, tuple(others), side)
                    self.assertIs(True, is_scheme(made))
                    self.assertEqual(times_in(one) + times_in(other), times_in(made))
                    self.assertIs(True, does(made, table_task(*whole)), (sizes, side, more))

    def test_one_goes_first(self):
        for side, others in enumerate([(1, 2, 2), (2, 1, 2), (2, 2, 1)]):
            made = asked(self, beside, seven(), (2, 2, 2), tables(*others), others, side)
            whole = [x + y if at == side else x for at, (x, y) in enumerate(zip((2, 2, 2), others))]
            self.assertEqual(11, times_in(made))
            self.assertIs(True, does(made, table_task(*whole)))
            # Without other's products, what is left does one's numbers alone, in the first rows and columns.
            first = (*made[:3], made[3][:7])
            self.assertEqual(table_task(2, 2, 2), task_by(tables_cut(first, tuple(whole), (2, 2, 2))))

    def test_one_scheme_as_both(self):
        scheme = seven()
        for side in range(3):
            made = asked(self, beside, scheme, (2, 2, 2), scheme, (2, 2, 2), side)
            whole = [4 if at == side else 2 for at in range(3)]
            self.assertEqual(14, times_in(made))
            self.assertIs(True, does(made, table_task(*whole)))

    def test_no_products_on_either_side(self):
        self.assertEqual((3, 1, 3, []), asked(self, beside, (1, 1, 1, []), (1, 1, 1), (2, 1, 2, []), (2, 1, 1), 0))
        made = asked(self, beside, tables(1, 1, 1), (1, 1, 1), (1, 1, 1, []), (1, 1, 1), 2)
        self.assertEqual((1, 2, 2, [((1,), (1, 0), (1, 0))]), made)
        made = asked(self, beside, (1, 1, 1, []), (1, 1, 1), tables(1, 1, 1), (1, 1, 1), 1)
        self.assertEqual((2, 2, 1, [((0, 1), (0, 1), (1,))]), made)

    def test_products_of_noughts_are_kept(self):
        noughts = (1, 1, 1, [((0,), (0,), (0,))])
        made = asked(self, beside, noughts, (1, 1, 1), noughts, (1, 1, 1), 0)
        self.assertEqual((2, 1, 2, [((0, 0), (0,), (0, 0))] * 2), made)


class TaskCut(unittest.TestCase):
    def test_lists_in_any_order(self):
        task = task_of(3, 3, 3, [(0, 0, 0, 1), (0, 2, 1, 2), (1, 1, 2, 3), (2, 0, 1, 4), (2, 2, 2, 5), (2, 2, 1, 6)])
        wanted = [(0, 0, 1, 6), (0, 1, 1, 4), (1, 1, 0, 1), (1, 0, 1, 2)]
        told = asked(self, task_cut, task, [2, 0], [0, 1], [2, 0])
        self.assertEqual((2, 2, 2, sorted(wanted)), told)
        told = asked(self, task_cut, task, [1, 2], [2], [1, 2, 0])
        self.assertEqual((2, 1, 3, [(0, 0, 0, 3), (1, 1, 0, 5)]), told)

    def test_all_in_each_order_tells_the_row_so_ordered(self):
        task = task_of(3, 3, 3, [(at % 3, at // 3 % 3, at // 9, c) for at, c in enumerate(numbers(27, 3, 50))])
        one, other = numbers(3, 5, 100), numbers(3, 6, 100)
        row = value_of(task, one, other)
        for lefts in itertools.permutations(range(3)):
            for rights, outs in [((0, 1, 2), (2, 0, 1)), ((2, 1, 0), (0, 1, 2)), ((1, 2, 0), (1, 0, 2))]:
                told = asked(self, task_cut, task, list(lefts), list(rights), list(outs))
                self.assertEqual([row[k] for k in outs],
                                 value_of(told, [one[i] for i in lefts], [other[j] for j in rights]))

    def test_of_one_number_each(self):
        task = table_task(2, 2, 2)
        self.assertEqual((1, 1, 1, [(0, 0, 0, 1)]), asked(self, task_cut, task, [1], [2], [0]))
        self.assertEqual((1, 1, 1, []), asked(self, task_cut, task, [1], [1], [0]))

    def test_all_in_their_order_is_the_same(self):
        for task in [line_task(3, 4), table_task(2, 3, 4), (1, 1, 1, []), (2, 3, 4, [])]:
            told = asked(self, task_cut, task, list(range(task[0])), list(range(task[1])), list(range(task[2])))
            self.assertEqual(task, told)

    def test_no_terms(self):
        self.assertEqual((2, 1, 1, []), asked(self, task_cut, (3, 3, 3, []), [2, 0], [1], [0]))

    def test_the_others_are_nought_or_not_told(self):
        task = task_of(4, 3, 5, [(at % 5, at % 4, at % 3, c) for at, c in enumerate(numbers(60, 13, 50)) if c])
        lefts, rights, outs = [3, 1], [2, 0], [4, 0, 1]
        one, other = [9, -7], [5, 3]
        whole, wholes = [0] * 4, [0] * 3
        for at, x in zip(lefts, one):
            whole[at] = x
        for at, x in zip(rights, other):
            wholes[at] = x
        row = value_of(task, whole, wholes)
        told = asked(self, task_cut, task, lefts, rights, outs)
        self.assertEqual((2, 2, 3), told[:3])
        self.assertEqual([row[k] for k in outs], value_of(told, one, other))

    def test_one_list_as_all_three(self):
        row = [2, 1]
        self.assertEqual((2, 2, 2, [(0, 1, 1, 1)]), asked(self, task_cut, line_task(3, 3), row, row, row))


class Cut(unittest.TestCase):
    def test_lists_in_any_order(self):
        scheme = (3, 2, 3, [((1, 2, 3), (4, 5), (6, 7, 8)), ((-1, 0, -3), (0, 9), (5, 5, 1))])
        wanted = [((3, 1), (5, 4), (7, 8)), ((-3, -1), (9, 0), (5, 1))]
        self.assertEqual((2, 2, 2, wanted), asked(self, cut, scheme, [2, 0], [1, 0], [1, 2]))

    def test_products_with_a_part_of_noughts_are_left_out(self):
        products = [((0, 1), (1, 1), (1, 1)), ((1, 0), (0, 1), (1, 1)), ((1, 1), (1, 0), (0, 1)),
                    ((1, 2), (3, 4), (5, 6)), ((0, 7), (0, 7), (0, 7)), ((-1, 7), (-1, 7), (-1, 7))]
        wanted = [((1,), (3,), (5,)), ((-1,), (-1,), (-1,))]
        self.assertEqual((1, 1, 1, wanted), asked(self, cut, (2, 2, 2, products), [0], [0], [0]))

    def test_parts_of_noughts_that_were_there_before_are_left_out_too(self):
        products = [((0, 0), (1, 1), (1, 1)), ((1, 1), (0, 0), (1, 1)), ((1, 1), (1, 1), (0, 0)), ((1, 1),) * 3]
        self.assertEqual((2, 2, 2, [((1, 1),) * 3]), asked(self, cut, (2, 2, 2, products), [0, 1], [0, 1], [0, 1]))

    def test_of_one_number_each(self):
        wanted = [((1,), (1,), (1,)), ((1,), (-1,), (1,))]
        self.assertEqual((1, 1, 1, wanted), asked(self, cut, seven(), [3], [0], [0]))

    def test_all_in_their_order_is_the_same(self):
        for scheme in [seven(), by_pairs(4), (2, 3, 4, []), INNER]:
            every = [list(range(length)) for length in scheme[:3]]
            self.assertEqual(scheme, asked(self, cut, scheme, *every))

    def test_what_is_made_does_what_is_made_of_the_task(self):
        for seed in range(6):
            scheme = scheme_of(4, 3, 5, 7, seed * 100, 1)
            for lists in [([0], [2], [4]), ([3, 1], [0, 1, 2], [2, 0]), ([1, 0, 2, 3], [2, 1], [4, 3, 2, 1, 0])]:
                made = asked(self, cut, scheme, *lists)
                self.assertIs(True, is_scheme(made))
                self.assertEqual(asked(self, task_cut, task_by(scheme), *lists), task_by(made))
                self.assertTrue(all(any(part) for product in made[3] for part in product))

    def test_one_list_as_all_three(self):
        row = [3, 0]
        self.assertEqual((2, 2, 2), asked(self, cut, seven(), row, row, row)[:3])

    def test_no_products(self):
        self.assertEqual((1, 2, 1, []), asked(self, cut, (3, 3, 3, []), [0], [1, 2], [2]))


class TablesCut(unittest.TestCase):
    def made(self, scheme, sizes, less):
        """What is told, held against cut to the first rows and columns."""
        (n, m, p), (a, b, c) = sizes, less
        lefts = [row * m + column for row in range(a) for column in range(b)]
        rights = [row * p + column for row in range(b) for column in range(c)]
        outs = [row * p + column for row in range(a) for column in range(c)]
        told = asked(self, tables_cut, scheme, sizes, less)
        self.assertEqual(cut(scheme, lefts, rights, outs), told)
        self.assertIs(True, does(told, table_task(a, b, c)))
        return told

    def test_each_side_alone_and_all(self):
        for sizes in [(2, 3, 4), (4, 2, 3), (3, 4, 2)]:
            scheme = tables(*sizes)
            for less in itertools.product(*[range(1, size + 1) for size in sizes]):
                self.assertEqual(less[0] * less[1] * less[2], times_in(self.made(scheme, sizes, less)))

    def test_the_very_same_sizes(self):
        self.assertEqual(seven(), self.made(seven(), (2, 2, 2), (2, 2, 2)))
        self.assertEqual(tables(2, 3, 4), self.made(tables(2, 3, 4), (2, 3, 4), (2, 3, 4)))
        scheme = (4, 4, 4, [((0,) * 4, (1,) * 4, (1,) * 4)] + seven()[3])
        self.assertEqual(seven(), self.made(scheme, (2, 2, 2), (2, 2, 2)))

    def test_seven_within_seven_cut_to_three(self):
        scheme = tables_within(seven(), (2, 2, 2), seven(), (2, 2, 2))
        for less in [(3, 3, 3), (3, 4, 4), (4, 3, 4), (4, 4, 3), (1, 2, 3), (3, 1, 2), (1, 1, 1)]:
            self.assertLessEqual(times_in(self.made(scheme, (4, 4, 4), less)), 49)

    def test_seven_cut_to_one(self):
        wanted = [((1,), (1,), (1,))]
        self.assertEqual((1, 1, 1), self.made(seven(), (2, 2, 2), (1, 1, 1))[:3])
        self.assertEqual((1, 1, 1, wanted), self.made(tables(2, 2, 2), (2, 2, 2), (1, 1, 1)))


class Wound(unittest.TestCase):
    def test_number_by_number(self):
        scheme = (3, 3, 5, [((1, 2, 3), (4, 5, 6), (1, 10, 100, 1000, 10000)), ((0, 0, 1), (0, 1, 0), (5, 0, 0, 5, 0))])
        wanted = [((1, 2, 3), (4, 5, 6), (1001, 10010, 100)), ((0, 0, 1), (0, 1, 0), (10, 0, 0))]
        self.assertEqual((3, 3, 3, wanted), asked(self, wound, scheme, 3, 1))
        wanted = [((1, 2, 3), (4, 5, 6), (-999, -9990, 100)), ((0, 0, 1), (0, 1, 0), (0, 0, 0))]
        self.assertEqual((3, 3, 3, wanted), asked(self, wound, scheme, 3, -1))

    def test_it_does_the_ring(self):
        for n in (1, 2, 3, 4, 7, 20):
            for turn in (1, -1):
                for scheme in [by_pairs(n), plain(line_task(n, n))]:
                    made = asked(self, wound, scheme, n, turn)
                    self.assertIs(True, is_scheme(made))
                    self.assertEqual(times_in(scheme), times_in(made))
                    self.assertIs(True, does(made, ring_task(n, turn)))

    def test_of_one(self):
        for turn in (1, -1):
            self.assertEqual((1, 1, 1, [((1,), (1,), (1,))]), asked(self, wound, by_pairs(1), 1, turn))
            self.assertEqual((1, 1, 1, []), asked(self, wound, (1, 1, 1, []), 1, turn))

    def test_it_tells_rings(self):
        one, other = numbers(6, 1, 10 ** 9), numbers(6, 2, 10 ** 9)
        line = value_of(line_task(6, 6), one, other) + [0]
        for turn in (1, -1):
            self.assertEqual([line[k] + turn * line[6 + k] for k in range(6)],
                             applied(wound(by_pairs(6), 6, turn), one, other))


if __name__ == "__main__":
    unittest.main()
