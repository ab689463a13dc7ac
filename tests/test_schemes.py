"""[2], [3], [6] and [7]: schemes, what they tell, and which tasks they do."""

import unittest

from asking import asked, numbers, scheme_of
from fewtimes.schemes import applied, does, fails_at, is_scheme, sums_in, task_by, times_in
from fewtimes.tasks import line_task, ring_task, table_task, task_of, value_of

# Two rows of two numbers, laid over one another by three products.
THREE = (2, 2, 3, [((1, 0), (1, 0), (1, -1, 0)),
                   ((0, 1), (0, 1), (0, -1, 1)),
                   ((1, 1), (1, 1), (0, 1, 0))])

# Strassen's seven products of two by two tables.
SEVEN = (4, 4, 4, [((1, 0, 0, 1), (1, 0, 0, 1), (1, 0, 0, 1)),
                   ((0, 0, 1, 1), (1, 0, 0, 0), (0, 0, 1, -1)),
                   ((1, 0, 0, 0), (0, 1, 0, -1), (0, 1, 0, 1)),
                   ((0, 0, 0, 1), (-1, 0, 1, 0), (1, 0, 1, 0)),
                   ((1, 1, 0, 0), (0, 0, 0, 1), (-1, 1, 0, 0)),
                   ((-1, 0, 1, 0), (1, 1, 0, 0), (0, 0, 0, 1)),
                   ((0, 1, 0, -1), (0, 0, 1, 1), (1, 0, 0, 0))])

ONE = ((1,), (1,), (1,))


def reckoned(scheme, one, other):
    """What the document says that a scheme tells, word by word."""
    left, right, many, products = scheme
    row = []
    for k in range(many):
        total = 0
        for l, r, o in products:
            total += o[k] * sum(l[i] * one[i] for i in range(left)) * sum(r[j] * other[j] for j in range(right))
        row.append(total)
    return row


class Thing:
    """Something that is no scheme, and is like a copy of itself."""

    def __eq__(self, other):
        return isinstance(other, Thing)


class IsScheme(unittest.TestCase):
    def yes(self, thing):
        self.assertIs(True, asked(self, is_scheme, thing))

    def no(self, thing):
        self.assertIs(False, asked(self, is_scheme, thing))

    def test_ordinary_schemes(self):
        self.yes(THREE)
        self.yes(SEVEN)
        self.yes((1, 1, 1, [ONE]))
        self.yes((1, 2, 3, [((0,), (0, 0), (0, 0, 0))]))

    def test_counts_of_products(self):
        self.yes((1, 1, 1, []))
        self.yes((1, 1, 1, [ONE] * 400))
        self.no((1, 1, 1, [ONE] * 401))

    def test_lengths(self):
        for side in range(3):
            for length, wanted in [(-1, False), (0, False), (1, True), (81, True), (82, False), (10 ** 30, False)]:
                lengths = [1, 1, 1]
                lengths[side] = length
                empty = (*lengths, [])
                self.assertIs(wanted, asked(self, is_scheme, empty), empty)
                if abs(length) < 100:
                    whole = (*lengths, [tuple((5,) * many for many in lengths)])
                    self.assertIs(wanted, asked(self, is_scheme, whole), whole)
        self.yes(scheme_of(81, 81, 81, 400, 5, 10000))

    def test_a_list_is_no_tuple(self):
        self.no([1, 1, 1, [ONE]])
        self.no((1, 1, 1, [[(1,), (1,), (1,)]]))
        for side in range(3):
            parts = [(1,), (1,), (1,)]
            parts[side] = [1]
            self.no((1, 1, 1, [tuple(parts)]))

    def test_a_tuple_is_no_list(self):
        self.no((1, 1, 1, (ONE,)))
        self.no((1, 1, 1, ()))

    def test_parts_too_short_or_too_long(self):
        for side in range(3):
            for part in [(), (1,), (1, 2, 3)]:
                parts = [(1, 2), (1, 2), (1, 2)]
                parts[side] = part
                self.no((2, 2, 2, [tuple(parts)]))
        self.no((2, 3, 4, [((1, 2, 3), (1, 2), (1, 2, 3, 4))]))

    def test_too_few_or_too_many_things(self):
        self.no((1, 1, 1))
        self.no((1, 1, [ONE]))
        self.no((1, 1, 1, [ONE], [ONE]))
        self.no((1, 1, 1, [ONE, ()]))
        self.no((1, 1, 1, [ONE[:2]]))
        self.no((1, 1, 1, [ONE + ((1,),)]))

    def test_the_last_product_counts_too(self):
        self.no((1, 1, 1, [ONE] * 399 + [((1,), (1,), (True,))]))
        self.no((1, 1, 1, [ONE] * 399 + [None]))

    def test_other_things_where_numbers_are_told(self):
        for wrong in [True, False, None, "1", "", b"1", [1], [], (1,), (), {}, {1}, Thing(), int]:
            for side in range(3):
                lengths = [1, 1, 1]
                lengths[side] = wrong
                self.no((*lengths, []))
                self.no((*lengths, [ONE]))
                parts = [(1, 2), (1, 2), (1, 2)]
                parts[side] = (1, wrong)
                self.no((2, 2, 2, [tuple(parts)]))
                parts[side] = (wrong, 1)
                self.no((2, 2, 2, [tuple(parts)]))

    def test_other_things_where_parts_products_and_lists_are_told(self):
        for wrong in [True, 0, 3, None, "a", "abc", b"abc", {}, {1: 1}, {1, 2, 3}, Thing(), tuple, range(3)]:
            self.no((1, 1, 1, wrong))
            self.no((1, 1, 1, [wrong]))
            for side in range(3):
                parts = [(1, 1, 1)] * 3
                parts[side] = wrong
                self.no((3, 3, 3, [tuple(parts)]))

    def test_great_numbers(self):
        self.yes((1, 1, 1, [((10 ** 100,), (-10 ** 100,), (0,))]))
        self.yes((1, 1, 1, [((10001,), (-10001,), (10 ** 15 + 1,))]))

    def test_things_that_are_no_scheme_at_all(self):
        for thing in [None, True, False, 0, 4, -10 ** 50, "", "abcd", b"", b"abcd", [], (), {}, set(), frozenset(),
                      Thing(), Thing, int, len, is_scheme, range(4), "1111", {1: 1, 2: 2, 3: 3, 4: 4},
                      (1,), (None,) * 4, ("a", "b", "c", []), line_task(2, 2)]:
            self.no(thing)

    def test_a_list_that_holds_itself(self):
        ring = []
        ring.append(ring)
        self.assertIs(False, is_scheme(ring))
        self.assertIs(False, is_scheme((1, 1, 1, ring)))


class Applied(unittest.TestCase):
    def test_no_product(self):
        self.assertEqual([0, 0, 0], asked(self, applied, (1, 2, 3, []), [5], [6, 7]))

    def test_one_product(self):
        scheme = (2, 3, 2, [((2, -1), (1, 0, 3), (5, -7))])
        product = (2 * 10 - 11) * (20 + 3 * 22)
        self.assertEqual([5 * product, -7 * product], asked(self, applied, scheme, [10, 11], [20, 21, 22]))

    def test_several_products(self):
        self.assertEqual([10, 29, 21], asked(self, applied, THREE, [2, 3], [5, 7]))
        self.assertEqual([19, 22, 43, 50], asked(self, applied, SEVEN, [1, 2, 3, 4], [5, 6, 7, 8]))

    def test_one_row_as_both(self):
        row = [1, 2, 3, 4]
        self.assertEqual([7, 10, 15, 22], asked(self, applied, SEVEN, row, row))

    def test_lengths_of_1_and_of_81_by_400_products(self):
        for left, right, many, count in [(1, 1, 1, 1), (1, 1, 1, 400), (81, 81, 81, 400), (1, 81, 1, 3), (81, 1, 2, 0)]:
            scheme = scheme_of(left, right, many, count, left + count, 10000)
            one, other = numbers(left, 1, 10 ** 20), numbers(right, 2, 10 ** 20)
            self.assertEqual(reckoned(scheme, one, other), asked(self, applied, scheme, one, other))


class Counts(unittest.TestCase):
    def test_times(self):
        self.assertEqual(0, asked(self, times_in, (2, 2, 2, [])))
        self.assertEqual(3, asked(self, times_in, THREE))
        self.assertEqual(7, asked(self, times_in, SEVEN))
        self.assertEqual(400, asked(self, times_in, (1, 1, 1, [ONE] * 400)))
        self.assertEqual(1, asked(self, times_in, (1, 1, 1, [((0,), (0,), (0,))])))

    def test_sums(self):
        self.assertEqual(2 + 2, asked(self, sums_in, THREE))
        self.assertEqual(18, asked(self, sums_in, SEVEN))
        self.assertEqual(399, asked(self, sums_in, (1, 1, 1, [ONE] * 400)))

    def test_sums_of_no_product(self):
        self.assertEqual(0, asked(self, sums_in, (81, 81, 81, [])))

    def test_parts_of_noughts_are_not_counted_below_nought(self):
        noughts = (0, 0, 0)
        self.assertEqual(0, asked(self, sums_in, (3, 3, 3, [(noughts, noughts, noughts)])))
        self.assertEqual(2, asked(self, sums_in, (3, 3, 3, [(noughts, (1, 2, 3), noughts)])))
        self.assertEqual(1, asked(self, sums_in, (3, 3, 3, [((-1, 0, 5), noughts, (1, 1, 1))])))

    def test_a_told_number_that_no_product_has(self):
        products = [((1, 1), (1, 0), (0, 2, 0)), ((1, 0), (0, 1), (0, -1, 3))]
        self.assertEqual(1 + 1, asked(self, sums_in, (2, 2, 3, products)))

    def test_numbers_of_either_sign_and_any_size_count_once(self):
        self.assertEqual(4, asked(self, sums_in, (3, 3, 3, [((-9, 8, 10 ** 30), (-1, -1, -1), (-1, 2, -3))])))

    def test_lengths_of_81_and_400_products(self):
        whole = (1,) * 81
        self.assertEqual(400 * 160 + 81 * 399, asked(self, sums_in, (81, 81, 81, [(whole, whole, whole)] * 400)))


class TaskBy(unittest.TestCase):
    def test_known_schemes(self):
        self.assertEqual(line_task(2, 2), asked(self, task_by, THREE))
        self.assertEqual(table_task(2, 2, 2), asked(self, task_by, SEVEN))

    def test_no_product(self):
        self.assertEqual((3, 4, 5, []), asked(self, task_by, (3, 4, 5, [])))

    def test_one_product(self):
        scheme = (2, 2, 2, [((2, 3), (0, 5), (7, -11))])
        wanted = [(0, 0, 1, 70), (0, 1, 1, 105), (1, 0, 1, -110), (1, 1, 1, -165)]
        self.assertEqual((2, 2, 2, wanted), asked(self, task_by, scheme))

    def test_parts_of_noughts(self):
        for product in [((0,), (1,), (1,)), ((1,), (0,), (1,)), ((1,), (1,), (0,))]:
            self.assertEqual((1, 1, 1, []), asked(self, task_by, (1, 1, 1, [product])))

    def test_products_whose_numbers_come_to_nought_together(self):
        one = ((1, 2), (3, 4), (5, 6))
        less = ((1, 2), (-3, -4), (5, 6))
        self.assertEqual((2, 2, 2, []), asked(self, task_by, (2, 2, 2, [one, less])))
        products = [((1, 1), (1, 0), (1, 0)), ((0, -1), (1, 0), (1, 0))]
        self.assertEqual((2, 2, 2, [(0, 0, 0, 1)]), asked(self, task_by, (2, 2, 2, products)))

    def test_great_numbers(self):
        scheme = (1, 1, 1, [((10 ** 20,), (-10 ** 20,), (10 ** 20,))])
        self.assertEqual((1, 1, 1, [(0, 0, 0, -10 ** 60)]), asked(self, task_by, scheme))

    def test_its_row_is_what_the_scheme_tells(self):
        for left, right, many, count in [(1, 1, 1, 1), (2, 3, 4, 5), (5, 1, 3, 20), (1, 6, 2, 9), (4, 4, 4, 400)]:
            scheme = scheme_of(left, right, many, count, count, 2)
            task = asked(self, task_by, scheme)
            self.assertEqual(task, task_of(*task))
            self.assertEqual((left, right, many), task[:3])
            for seed in range(3):
                one, other = numbers(left, seed, 10 ** 20), numbers(right, seed + 50, 10 ** 20)
                self.assertEqual(applied(scheme, one, other), value_of(task, one, other))

    def test_lengths_of_81_and_400_products(self):
        def lone(at):
            return tuple(1 if place == at % 81 else 0 for place in range(81))
        scheme = (81, 81, 81, [(lone(at), lone(2 * at), lone(3 * at)) for at in range(400)])
        wanted = task_of(81, 81, 81, [(3 * at % 81, at % 81, 2 * at % 81, 1) for at in range(400)])
        self.assertEqual(wanted, asked(self, task_by, scheme))
        self.assertIs(True, asked(self, does, scheme, wanted))
        self.assertIsNone(asked(self, fails_at, scheme, wanted))


class Does(unittest.TestCase):
    def test_it_does(self):
        self.assertIs(True, asked(self, does, THREE, line_task(2, 2)))
        self.assertIs(True, asked(self, does, SEVEN, table_task(2, 2, 2)))
        self.assertIs(True, asked(self, does, (2, 2, 2, []), (2, 2, 2, [])))

    def test_same_lengths_but_another_task(self):
        self.assertIs(False, asked(self, does, SEVEN, ring_task(4, 1)))
        self.assertIs(False, asked(self, does, THREE, (2, 2, 3, [])))
        self.assertIs(False, asked(self, does, (2, 2, 3, []), line_task(2, 2)))
        left, right, many, terms = table_task(2, 2, 2)
        self.assertIs(False, asked(self, does, SEVEN, (left, right, many, terms[:-1])))
        self.assertIs(False, asked(self, does, SEVEN, (left, right, many, terms[:-1] + [(3, 3, 3, 2)])))

    def test_other_lengths(self):
        self.assertIs(False, asked(self, does, SEVEN, table_task(2, 2, 3)))
        self.assertIs(False, asked(self, does, THREE, line_task(2, 3)))
        for lengths in [(3, 2, 3), (2, 3, 3), (2, 2, 4)]:
            self.assertIs(False, asked(self, does, THREE, (*lengths, line_task(2, 2)[3])))
            self.assertIs(False, asked(self, does, (2, 2, 3, []), (*lengths, [])))


class FailsAt(unittest.TestCase):
    def failing(self, scheme, task):
        """The pair told, with what it must be looked for over all rows of a single 1."""
        left, right = task[:2]
        wanted = None
        for i in range(left):
            for j in range(right):
                one = [1 if at == i else 0 for at in range(left)]
                other = [1 if at == j else 0 for at in range(right)]
                if wanted is None and reckoned(scheme, one, other) != value_of(task, one, other):
                    wanted = (one, other)
        told = asked(self, fails_at, scheme, task)
        self.assertEqual(wanted, told)
        self.assertIs(wanted is None, does(scheme, task))
        return told

    def test_none_where_it_does(self):
        self.assertIsNone(self.failing(THREE, line_task(2, 2)))
        self.assertIsNone(self.failing(SEVEN, table_task(2, 2, 2)))
        self.assertIsNone(self.failing((1, 2, 3, []), (1, 2, 3, [])))

    def test_the_pair_is_a_tuple_of_two_lists(self):
        told = self.failing((2, 3, 1, []), (2, 3, 1, [(0, 1, 2, 5)]))
        self.assertEqual(([0, 1], [0, 0, 1]), told)
        self.assertIs(tuple, type(told))
        self.assertEqual([list, list], [type(row) for row in told])

    def test_lengths_of_one(self):
        self.assertEqual(([1], [1]), self.failing((1, 1, 1, [ONE]), (1, 1, 1, [(0, 0, 0, 2)])))

    def test_a_product_too_much(self):
        scheme = (2, 2, 3, THREE[3] + [((0, 1), (1, 0), (0, 0, 4))])
        self.assertEqual(([0, 1], [1, 0]), self.failing(scheme, line_task(2, 2)))

    def test_the_least_of_several_pairs(self):
        # The least term has k 0, but stands at (2, 2); the least pair is (0, 1), by k 2.
        task = (3, 3, 3, [(0, 2, 2, 1), (1, 1, 0, 1), (2, 0, 1, 1), (2, 0, 2, 1)])
        self.assertEqual(([1, 0, 0], [0, 1, 0]), self.failing((3, 3, 3, []), task))
        # i goes ahead of j.
        task = (3, 3, 1, [(0, 1, 2, 1), (0, 2, 0, 1)])
        self.assertEqual(([0, 1, 0], [0, 0, 1]), self.failing((3, 3, 1, []), task))

    def test_wrong_in_both(self):
        scheme = (2, 2, 1, [((0, 1), (1, 0), (3,))])
        self.assertEqual(([1, 0], [0, 1]), self.failing(scheme, (2, 2, 1, [(0, 0, 1, 1)])))
        self.assertEqual(([0, 1], [1, 0]), self.failing(scheme, (2, 2, 1, [(0, 1, 1, 1)])))
        self.assertEqual(([0, 1], [1, 0]), self.failing(scheme, (2, 2, 1, [(0, 1, 0, 2)])))

    def test_each_changed_number_is_found(self):
        for at in range(7):
            for side in range(3):
                for place in range(4):
                    products = [[list(part) for part in product] for product in SEVEN[3]]
                    products[at][side][place] += 1
                    changed = [tuple(tuple(part) for part in product) for product in products]
                    self.assertIsNotNone(self.failing((4, 4, 4, changed), table_task(2, 2, 2)))

    def test_great_terms(self):
        task = (1, 2, 1, [(0, 0, 0, 10 ** 15), (0, 0, 1, -10 ** 15)])
        scheme = (1, 2, 1, [((10 ** 4,), (10 ** 11, -10 ** 11), (1,))])
        self.assertIsNone(self.failing(scheme, task))

    def test_what_was_told_may_be_handed_in_again(self):
        one, other = fails_at(SEVEN, ring_task(4, -1))
        self.assertNotEqual(applied(SEVEN, one, other), value_of(ring_task(4, -1), one, other))


if __name__ == "__main__":
    unittest.main()
