"""[1], [2], [3] and [19]: long rows, great tables and long numbers."""

import unittest

from asking import asked, numbers, scheme_of
from fewtimes.combining import lines_within, tables_cut, tables_within
from fewtimes.great import long_product, row_times, table_times, times_for
from fewtimes.known import by_pairs, plain, seven
from fewtimes.moves import flipped, flips
from fewtimes.schemes import does
from fewtimes.search import walked
from fewtimes.tasks import line_task, table_task
from fewtimes.turning import mirrored, tables_mirrored, tables_turned


def with_nothing(scheme):
    """The scheme with products that come to nothing: parts of noughts, and two that take each other away."""
    left, right, many, products = scheme
    one, two = ((1,) * left, (2,) * right, (3,) * many), ((-1,) * left, (2,) * right, (3,) * many)
    nothing = ((0,) * left, (1,) * right, (1,) * many)
    return (left, right, many, [nothing, one] + products + [two, ((1,) * left, (1,) * right, (0,) * many)])


def scheme_times(scheme, number):
    """The scheme with l so many times as great, and o for as much again: for a number of 1 or -1 it does the same."""
    left, right, many, products = scheme
    return (left, right, many, [(tuple(number * x for x in l), r, tuple(number * x for x in o)) for l, r, o in products])


LINES = [(2, by_pairs(2)), (3, by_pairs(3)), (4, by_pairs(4)), (5, by_pairs(5)), (7, by_pairs(7)),
         (2, plain(line_task(2, 2))), (3, plain(line_task(3, 3))), (5, plain(line_task(5, 5))),
         (4, lines_within(by_pairs(2), 2, 2, by_pairs(2), 2)), (6, lines_within(by_pairs(3), 3, 3, by_pairs(2), 2)),
         (2, with_nothing(by_pairs(2))), (3, with_nothing(plain(line_task(3, 3)))),
         (2, mirrored(by_pairs(2))), (2, scheme_times(by_pairs(2), -1)),
         (2, walked(plain(line_task(2, 2)), [2, 3])[1]), (3, walked(plain(line_task(3, 3)), list(range(30)))[1])]

TABLES = [(2, seven()), (2, plain(table_task(2, 2, 2))), (3, plain(table_task(3, 3, 3))),
          (4, tables_within(seven(), (2, 2, 2), seven(), (2, 2, 2))),
          (3, tables_cut(tables_within(seven(), (2, 2, 2), seven(), (2, 2, 2)), (4, 4, 4), (3, 3, 3))),
          (2, tables_turned(seven(), (2, 2, 2))), (2, tables_mirrored(seven(), (2, 2, 2))),
          (2, with_nothing(seven())), (2, flipped(plain(table_task(2, 2, 2)), flips(plain(table_task(2, 2, 2)))[5])),
          (5, plain(table_task(5, 5, 5))), (7, plain(table_task(7, 7, 7)))]


def times_by_words(products, n, length):
    """The count, as the document's words go."""
    if length == 1:
        return 1
    block = 1
    while n * block < length:
        block += 1
    return products * times_by_words(products, n, block)


def row_by_hand(one, other):
    """Two rows laid over one another."""
    told = [0] * (len(one) + len(other) - 1)
    for i, x in enumerate(one):
        for j, y in enumerate(other):
            told[i + j] += x * y
    return told


def table_by_hand(one, other):
    """The plain product of two tables."""
    side = range(len(one))
    return [[sum(one[a][b] * other[b][c] for b in side) for c in side] for a in side]


def table(side, seed, bound):
    """A table of any numbers."""
    return [numbers(side, 50 * seed + at, bound) for at in range(side)]


class Schemes(unittest.TestCase):
    def test_the_schemes_do_what_they_are_for(self):
        for n, scheme in LINES:
            self.assertIs(True, does(scheme, line_task(n, n)))
        for n, scheme in TABLES:
            self.assertIs(True, does(scheme, table_task(n, n, n)))


class RowTimes(unittest.TestCase):
    def told(self, scheme, n, one, other):
        """The answer, held against the plain product and the count."""
        told = asked(self, row_times, scheme, n, one, other)
        self.assertIs(tuple, type(told))
        row, times = told
        self.assertEqual(row_by_hand(one, other), row)
        self.assertEqual(times_by_words(len(scheme[3]), n, len(one)), times)
        self.assertEqual(times_for(len(scheme[3]), n, len(one)), times)
        return told

    def test_length_1(self):
        for n, scheme in LINES:
            self.assertEqual(([-35], 1), self.told(scheme, n, [5], [-7]))
            self.assertEqual(([0], 1), self.told(scheme, n, [0], [-7]))
        self.assertEqual(([10 ** 60], 1), self.told(by_pairs(2), 2, [10 ** 30], [10 ** 30]))

    def test_small_rows(self):
        self.assertEqual(([10, 29, 21], 3), self.told(by_pairs(2), 2, [2, 3], [5, 7]))
        self.assertEqual(([10, 29, 21], 4), self.told(plain(line_task(2, 2)), 2, [2, 3], [5, 7]))
        self.assertEqual(([10, 29, 58, 54, 33], 9), self.told(by_pairs(2), 2, [2, 3, 3], [5, 7, 11]))
        # Filled up to five blocks of one number each: all fifteen products are done.
        self.assertEqual(([10, 29, 21], 15), self.told(by_pairs(5), 5, [2, 3], [5, 7]))

    def test_powers_of_n_and_one_more_and_one_less(self):
        for n, scheme in LINES:
            power = n
            while power <= 60:
                for length in (power - 1, power, power + 1):
                    if length <= 60 and times_for(len(scheme[3]), n, length) <= 20000:
                        self.told(scheme, n, numbers(length, n, 99), numbers(length, n + 1, 99))
                power *= n

    def test_every_length(self):
        for length in range(1, 61):
            one, other = numbers(length, length, 10 ** 6), numbers(length, 2 * length + 1, 10 ** 6)
            for n, scheme in [LINES[0], LINES[1], LINES[8]]:
                self.told(scheme, n, one, other)

    def test_numbers_of_any_size(self):
        for n, scheme in LINES:
            for bound in (1, 10 ** 5, 10 ** 40):
                self.told(scheme, n, numbers(9, n, bound), numbers(9, n + 7, bound))
            self.told(scheme, n, [-10 ** 50] * 5, [10 ** 50] * 5)

    def test_rows_of_noughts(self):
        for n, scheme in LINES:
            for length in (1, 2, 3, 10):
                noughts = [0] * length
                self.assertEqual([0] * (2 * length - 1), self.told(scheme, n, noughts, noughts)[0])
                self.told(scheme, n, noughts, numbers(length, 5, 9))
                self.told(scheme, n, numbers(length, 5, 9), noughts)
                self.told(scheme, n, [0] * (length - 1) + [1], [0] * (length - 1) + [1])

    def test_products_that_come_to_nothing_are_counted(self):
        self.assertEqual(7, len(with_nothing(by_pairs(2))[3]))
        self.assertEqual(([10, 29, 21], 7), self.told(with_nothing(by_pairs(2)), 2, [2, 3], [5, 7]))
        self.assertEqual(49, self.told(with_nothing(by_pairs(2)), 2, [1, 2, 3], [4, 5, 6])[1])

    def test_the_greatest_counts(self):
        self.assertEqual(15625, self.told(plain(line_task(5, 5)), 5, numbers(60, 1, 9), numbers(60, 2, 9))[1])
        self.assertEqual(4096, self.told(plain(line_task(2, 2)), 2, numbers(60, 3, 9), numbers(60, 4, 9))[1])
        self.assertEqual(400, self.told(plain(line_task(20, 20)), 20, numbers(20, 3, 9), numbers(20, 4, 9))[1])
        self.assertEqual(325, self.told(by_pairs(25), 25, numbers(24, 3, 9), numbers(24, 4, 9))[1])


class TimesFor(unittest.TestCase):
    def test_small(self):
        self.assertEqual([1, 3, 9, 9, 27, 27, 27, 27, 81], [times_for(3, 2, length) for length in range(1, 10)])
        self.assertEqual([1, 6, 6, 36, 36, 36, 36, 36, 36, 216], [times_for(6, 3, length) for length in range(1, 11)])
        self.assertEqual([1] + [325] * 24 + [325 ** 2] * 2, [times_for(325, 25, length) for length in range(1, 28)])

    def test_by_the_documents_words(self):
        for products in (1, 3, 7, 400):
            for n in (2, 3, 5, 9, 10, 40, 81):
                for length in list(range(1, 40)) + [60, 80, 81, 82, 100, 101, 127, 128, 129, 728, 729, 730, 1001]:
                    self.assertEqual(times_by_words(products, n, length), asked(self, times_for, products, n, length))

    def test_one_product(self):
        for n in (2, 3, 25):
            for length in (1, 2, 60, 999999, 10 ** 6):
                self.assertEqual(1, times_for(1, n, length))

    def test_great_lengths(self):
        self.assertEqual(3 ** 20, times_for(3, 2, 10 ** 6))
        self.assertEqual(7 ** 20, times_for(7, 2, 2 ** 19 + 1))
        self.assertEqual(7 ** 19, times_for(7, 2, 2 ** 19))
        self.assertEqual(7 ** 19, times_for(7, 2, 2 ** 19 - 1))
        self.assertEqual(400 ** 13, times_for(400, 3, 10 ** 6))
        self.assertEqual(100 ** 6, times_for(100, 10, 10 ** 6))
        self.assertEqual(100 ** 6, times_for(100, 10, 10 ** 6 - 1))
        self.assertEqual(100 ** 6, times_for(100, 10, 10 ** 5 + 1))
        self.assertEqual(100 ** 5, times_for(100, 10, 10 ** 5))


class TableTimes(unittest.TestCase):
    def told(self, scheme, n, one, other):
        """The answer, held against the plain product and the count."""
        told = asked(self, table_times, scheme, n, one, other)
        self.assertIs(tuple, type(told))
        made, times = told
        self.assertEqual(table_by_hand(one, other), made)
        self.assertEqual(times_by_words(len(scheme[3]), n, len(one)), times)
        self.assertEqual(times_for(len(scheme[3]), n, len(one)), times)
        return told

    def test_side_1(self):
        for n, scheme in TABLES:
            self.assertEqual(([[-35]], 1), self.told(scheme, n, [[5]], [[-7]]))
            self.assertEqual(([[0]], 1), self.told(scheme, n, [[5]], [[0]]))

    def test_small_tables(self):
        self.assertEqual(([[19, 22], [43, 50]], 7), self.told(seven(), 2, [[1, 2], [3, 4]], [[5, 6], [7, 8]]))
        self.assertEqual(([[19, 22], [43, 50]], 8),
                         self.told(plain(table_task(2, 2, 2)), 2, [[1, 2], [3, 4]], [[5, 6], [7, 8]]))
        self.assertEqual(([[19, 22], [43, 50]], 27),
                         self.told(plain(table_task(3, 3, 3)), 3, [[1, 2], [3, 4]], [[5, 6], [7, 8]]))

    def test_every_side(self):
        for side in range(1, 17):
            for n, scheme in TABLES:
                if times_for(len(scheme[3]), n, side) <= 5000:
                    self.told(scheme, n, table(side, side, 99), table(side, side + 20, 99))

    def test_the_greatest_counts(self):
        for n, scheme, side, times in [(3, plain(table_task(3, 3, 3)), 16, 19683), (2, seven(), 16, 2401),
                                       (5, plain(table_task(5, 5, 5)), 16, 15625), (7, plain(table_task(7, 7, 7)), 7, 343)]:
            self.assertEqual(times, self.told(scheme, n, table(side, 1, 9), table(side, 2, 9))[1])

    def test_numbers_of_any_size(self):
        for n, scheme in TABLES[:7]:
            for bound in (1, 10 ** 6, 10 ** 40):
                self.told(scheme, n, table(3, 5, bound), table(3, 6, bound))
        self.told(seven(), 2, [[-10 ** 50] * 5] * 5, [[10 ** 50] * 5] * 5)

    def test_tables_of_noughts(self):
        for n, scheme in TABLES:
            for side in (1, 2, 3, 5):
                noughts = [[0] * side for _ in range(side)]
                self.assertEqual(noughts, self.told(scheme, n, noughts, noughts)[0])
                self.told(scheme, n, noughts, table(side, 3, 9))
                self.told(scheme, n, table(side, 4, 9), noughts)

    def test_a_single_one_at_each_place(self):
        for at in range(9):
            one = [[int(at == 3 * a + b) for b in range(3)] for a in range(3)]
            self.told(seven(), 2, one, table(3, 8, 99))
            self.told(seven(), 2, table(3, 8, 99), one)

    def test_products_that_come_to_nothing_are_counted(self):
        self.assertEqual(121, self.told(with_nothing(seven()), 2, table(3, 1, 9), table(3, 2, 9))[1])

    def test_no_two_told_rows_are_one_list(self):
        made = table_times(seven(), 2, [[0] * 4] * 4, [[0] * 4] * 4)[0]
        made[0][0] = 5
        self.assertEqual([[5, 0, 0, 0], [0] * 4, [0] * 4, [0] * 4], made)


class LongProduct(unittest.TestCase):
    def told(self, scheme, n, one, other, base):
        """The answer, held against Python's own product and the count."""
        told = asked(self, long_product, scheme, n, one, other, base)
        self.assertIs(tuple, type(told))
        product, times = told
        self.assertEqual(one * other, product)
        length = 1
        while base ** length <= max(one, other):
            length += 1
        self.assertEqual(times_by_words(len(scheme[3]), n, length), times)
        return told

    def test_nought(self):
        for n, scheme in LINES:
            self.assertEqual((0, 1), self.told(scheme, n, 0, 0, 10))
            self.assertEqual((0, 1), self.told(scheme, n, 0, 9, 10))
            self.assertEqual((0, len(scheme[3])), self.told(scheme, n, 0, 10, 10))
            self.assertEqual((0, len(scheme[3])), self.told(scheme, n, 10, 0, 10))

    def test_small(self):
        self.assertEqual((63, 1), self.told(by_pairs(2), 2, 7, 9, 10))
        self.assertEqual((70, 3), self.told(by_pairs(2), 2, 7, 10, 10))
        self.assertEqual((9801, 3), self.told(by_pairs(2), 2, 99, 99, 10))
        self.assertEqual((9900, 9), self.told(by_pairs(2), 2, 99, 100, 10))
        self.assertEqual((1, 1), self.told(by_pairs(2), 2, 1, 1, 2))
        self.assertEqual((4, 3), self.told(by_pairs(2), 2, 2, 2, 2))

    def test_numbers_of_unlike_many_figures(self):
        for n, scheme in LINES:
            for one, other in [(3, 10 ** 8), (10 ** 8, 3), (99999, 1), (1, 10 ** 7 - 1), (12345678, 98)]:
                self.told(scheme, n, one, other, 10)

    def test_bases_2_and_1000_and_60_figures(self):
        for n, scheme in [LINES[0], LINES[1], LINES[5], LINES[8], LINES[10]]:
            for base in (2, 3, 10, 999, 1000):
                top = base ** 60 - 1
                if times_for(len(scheme[3]), n, 60) <= 20000:
                    self.told(scheme, n, top, top, base)
                    self.told(scheme, n, top, 0, base)
                    self.told(scheme, n, 1, top, base)
                    self.told(scheme, n, base ** 59, base ** 59, base)
                    self.told(scheme, n, base ** 59 - 1, base ** 58, base)

    def test_around_the_powers_of_the_base(self):
        for base in (2, 10, 1000):
            for many in (1, 2, 4, 5):
                for more in (-1, 0, 1):
                    self.told(by_pairs(2), 2, base ** many + more, base ** many - more, base)
                    self.told(by_pairs(3), 3, base ** many + more, 1, base)

    def test_many_numbers(self):
        for seed, x in enumerate(numbers(40, 17, 10 ** 18)):
            base = 2 + abs(x) % 999 if seed % 2 else 10
            self.told(by_pairs(3), 3, abs(x), abs(numbers(1, seed, 10 ** 12)[0]), base)


class AnyRowsOfAScheme(unittest.TestCase):
    def test_the_scheme_may_be_of_any_numbers(self):
        # Two products alike but for multiples that come to one together.
        l, r, o = by_pairs(2)[3][0]
        split = (2, 2, 3, [(l, r, tuple(10000 * x for x in o)), (l, r, tuple(-9999 * x for x in o))] + by_pairs(2)[3][1:])
        self.assertIs(True, does(split, line_task(2, 2)))
        self.assertEqual((row_by_hand([1, 2, 3], [4, 5, 6]), 16), asked(self, row_times, split, 2, [1, 2, 3], [4, 5, 6]))
        extra = scheme_of(2, 2, 3, 3, 77, 10000)
        undone = (2, 2, 3, extra[3] + [(l, r, tuple(-x for x in o)) for l, r, o in extra[3]] + by_pairs(2)[3])
        self.assertEqual(row_by_hand([1, 2, 3], [4, 5, 6]), asked(self, row_times, undone, 2, [1, 2, 3], [4, 5, 6])[0])


if __name__ == "__main__":
    unittest.main()
