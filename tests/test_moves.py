"""[2], [3] and [15]: schemes tidied and flipped."""

import itertools
import unittest

from asking import asked, numbers, refused, scheme_of
from fewtimes.errors import NoFlip
from fewtimes.known import by_pairs, plain, seven
from fewtimes.moves import flipped, flips, tidied
from fewtimes.schemes import applied, is_scheme, task_by
from fewtimes.tasks import line_task, table_task


def small_scheme(left, right, many, count, seed):
    """A scheme of small numbers, so that parts are often alike, or of noughts."""
    return scheme_of(left, right, many, count, seed, 1)


def turned_signs(product):
    """A product's signs, as the document's words go."""
    l, r, o = (list(part) for part in product)
    for part in (l, r):
        for x in part:
            if x:
                if x < 0:
                    part[:] = [-y for y in part]
                    o = [-y for y in o]
                break
    return (tuple(l), tuple(r), tuple(o))


def once_tidied(products):
    """The products changed once, as the document's words go."""
    products = [turned_signs(product) for product in products]
    for at, product in enumerate(products):
        if not all(any(part) for part in product):
            return products[:at] + products[at + 1:]
    for r, s in itertools.combinations(range(len(products)), 2):
        one, other = products[r], products[s]
        for third in (2, 1, 0):
            if all(one[side] == other[side] for side in range(3) if side != third):
                parts = list(one)
                parts[third] = tuple(x + y for x, y in zip(one[third], other[third]))
                products[r] = tuple(parts)
                return products[:s] + products[s + 1:]
    return products


class Tidied(unittest.TestCase):
    def tidy(self, scheme):
        """The answer, held against the document's words and the task."""
        told = asked(self, tidied, scheme)
        products = list(scheme[3])
        while once_tidied(products) != products:
            products = once_tidied(products)
        self.assertEqual((*scheme[:3], products), told)
        self.assertIs(True, is_scheme(told))
        self.assertEqual(task_by(scheme), task_by(told))
        self.assertLessEqual(len(told[3]), len(scheme[3]))
        return told

    def products(self, *products):
        """The products of a tidied scheme of lengths 2, 2 and 2."""
        return self.tidy((2, 2, 2, list(products)))[3]

    def test_signs_of_l(self):
        self.assertEqual([((1, 5), (2, 3), (-4, 6))], self.products(((-1, -5), (2, 3), (4, -6))))
        self.assertEqual([((0, 5), (2, 3), (-4, 0))], self.products(((0, -5), (2, 3), (4, 0))))
        self.assertEqual([((1, -5), (2, 3), (4, 6))], self.products(((1, -5), (2, 3), (4, 6))))

    def test_signs_of_r(self):
        self.assertEqual([((1, 5), (2, -3), (-4, 6))], self.products(((1, 5), (-2, 3), (4, -6))))
        self.assertEqual([((1, 5), (0, 3), (-4, 6))], self.products(((1, 5), (0, -3), (4, -6))))

    def test_signs_of_both_leave_o(self):
        self.assertEqual([((1, 5), (2, 3), (4, -6))], self.products(((-1, -5), (-2, -3), (4, -6))))

    def test_o_alone_is_not_turned(self):
        self.assertEqual([((1, 5), (2, 3), (-4, -6))], self.products(((1, 5), (2, 3), (-4, -6))))

    def test_products_of_noughts_are_left_out(self):
        whole = ((1, 2), (3, 4), (5, 6))
        for side in range(3):
            parts = list(whole)
            parts[side] = (0, 0)
            self.assertEqual([], self.products(tuple(parts)))
            self.assertEqual([whole], self.products(tuple(parts), whole, tuple(parts), tuple(parts)))

    def test_alike_in_l_and_r(self):
        self.assertEqual([((1, 2), (3, 4), (15, 26))],
                         self.products(((1, 2), (3, 4), (5, 6)), ((1, 2), (3, 4), (10, 20))))

    def test_alike_in_l_and_o(self):
        self.assertEqual([((1, 2), (13, 24), (5, 6))],
                         self.products(((1, 2), (3, 4), (5, 6)), ((1, 2), (10, 20), (5, 6))))

    def test_alike_in_r_and_o(self):
        self.assertEqual([((11, 22), (3, 4), (5, 6))],
                         self.products(((1, 2), (3, 4), (5, 6)), ((10, 20), (3, 4), (5, 6))))

    def test_alike_in_all_three(self):
        whole = ((1, 2), (3, 4), (5, 6))
        self.assertEqual([((1, 2), (3, 4), (10, 12))], self.products(whole, whole))
        self.assertEqual([((1, 2), (3, 4), (20, 24))], self.products(whole, whole, whole, whole))

    def test_alike_when_signs_are_turned(self):
        self.assertEqual([((1, 2), (3, 4), (4, 4))],
                         self.products(((1, 2), (3, 4), (5, 6)), ((-1, -2), (3, 4), (1, 2))))
        self.assertEqual([((1, 2), (3, 4), (6, 8))],
                         self.products(((-1, -2), (3, 4), (-5, -6)), ((1, 2), (-3, -4), (-1, -2))))

    def test_alike_products_that_come_to_nought(self):
        self.assertEqual([], self.products(((1, 2), (3, 4), (5, 6)), ((-1, -2), (3, 4), (5, 6))))
        self.assertEqual([((1, 1), (1, 0), (0, 1))],
                         self.products(((1, 2), (3, 4), (5, 6)), ((1, 1), (1, 0), (0, 1)), ((1, 2), (3, 4), (-5, -6))))

    def test_signs_turned_make_parts_alike_or_unlike(self):
        # As they stand, the first and the third are unlike in o; with signs turned, the first two are alike in l and o.
        told = self.products(((1, 0), (1, 0), (5, 6)), ((-1, 0), (0, 1), (-5, -6)), ((1, 0), (2, 7), (-5, -6)))
        self.assertEqual([((1, 0), (1, 1), (5, 6)), ((1, 0), (2, 7), (-5, -6))], told)
        # As they stand, these two are alike in r and o; with signs turned, they are not.
        told = self.products(((1, 0), (1, 1), (1, 0)), ((-4, 1), (1, 1), (1, 0)))
        self.assertEqual([((1, 0), (1, 1), (1, 0)), ((4, -1), (1, 1), (-1, 0))], told)

    def test_a_sum_begins_at_either_ones_first_number(self):
        told = self.products(((0, 1), (1, 1), (1, 0)), ((1, -5), (1, 1), (1, 0)))
        self.assertEqual([((1, -4), (1, 1), (1, 0))], told)
        told = self.products(((1, 1), (3, -9), (-1, 0)), ((1, 1), (0, 2), (-1, 0)))
        self.assertEqual([((1, 1), (3, -7), (-1, 0))], told)

    def test_what_comes_of_a_sum_is_put_together_again(self):
        # The first two make ((1, 0), (1, 1), (1, 0)), which is alike with the third in r and o.
        told = self.products(((1, 0), (1, 0), (1, 0)), ((1, 0), (0, 1), (1, 0)), ((0, 1), (1, 1), (1, 0)))
        self.assertEqual([((1, 1), (1, 1), (1, 0))], told)

    def test_the_first_two_as_pairs_stand(self):
        # (0, 3) goes ahead of (1, 2), and keeps 0's place.
        told = self.products(((1, 0), (1, 0), (1, 0)), ((0, 1), (0, 1), (0, 1)), ((0, 1), (0, 1), (1, 1)),
                             ((1, 0), (1, 0), (2, 5)))
        self.assertEqual([((1, 0), (1, 0), (3, 5)), ((0, 1), (0, 1), (1, 2))], told)
        # (0, 1) by l and o goes ahead of (0, 2) by l and r; the sum is then no longer alike with 2.
        told = self.products(((1, 0), (1, 0), (1, 0)), ((1, 0), (0, 1), (1, 0)), ((1, 0), (1, 0), (0, 1)))
        self.assertEqual([((1, 0), (1, 1), (1, 0)), ((1, 0), (1, 0), (0, 1))], told)
        # (0, 1) by r and o goes ahead of (0, 2) by l and r.
        told = self.products(((1, 0), (1, 0), (1, 0)), ((0, 1), (1, 0), (1, 0)), ((1, 0), (1, 0), (0, 1)))
        self.assertEqual([((1, 1), (1, 0), (1, 0)), ((1, 0), (1, 0), (0, 1))], told)

    def test_noughts_are_left_out_ahead_of_sums(self):
        # Were the first and the third put together instead, what comes of it would stand first.
        told = self.products(((1, 0), (0, 0), (1, 0)), ((0, 1), (1, 1), (2, 0)), ((1, 0), (0, 1), (1, 0)))
        self.assertEqual([((0, 1), (1, 1), (2, 0)), ((1, 0), (0, 1), (1, 0))], told)

    def test_a_scheme_that_is_tidied_already(self):
        for scheme in [by_pairs(3), plain(table_task(2, 2, 2)), plain(line_task(3, 2)), (1, 2, 3, [])]:
            self.assertEqual(scheme, self.tidy(scheme))
        told = self.tidy(seven())
        self.assertEqual(told, self.tidy(told))
        self.assertEqual(7, len(told[3]))

    def test_many_schemes(self):
        for seed in range(60):
            lengths = [(1, 1, 1), (2, 1, 2), (2, 2, 2), (1, 3, 2), (3, 2, 1), (1, 1, 2)][seed % 6]
            scheme = small_scheme(*lengths, 2 + seed % 9, 31 * seed)
            told = self.tidy(scheme)
            self.assertEqual(told, self.tidy(told))
            one, other = numbers(lengths[0], seed, 99), numbers(lengths[1], seed + 1, 99)
            self.assertEqual(applied(scheme, one, other), applied(told, one, other))

    def test_great_numbers(self):
        self.assertEqual([((10 ** 20, 0), (1, 0), (-10 ** 20, 0))],
                         self.products(((-10 ** 20, 0), (1, 0), (10 ** 20, 0))))

    def test_400_products(self):
        product = ((1,) * 81, (2,) * 81, (3,) + (0,) * 80)
        wanted = ((1,) * 81, (2,) * 81, (1200,) + (0,) * 80)
        self.assertEqual((81, 81, 81, [wanted]), asked(self, tidied, (81, 81, 81, [product] * 400)))
        self.assertEqual((81, 81, 81, []), asked(self, tidied, (81, 81, 81, [((0,) * 81,) * 3] * 400)))


class Flips(unittest.TestCase):
    def found(self, scheme):
        """The answer, held against a look at each two products."""
        told = asked(self, flips, scheme)
        products, wanted = scheme[3], []
        for r in range(len(products)):
            for s in range(len(products)):
                for side in range(3):
                    if r != s and products[r][side] == products[s][side]:
                        wanted.append((r, s, side))
        self.assertEqual(wanted, told)
        self.assertEqual(sorted(told), told)
        return told

    def test_none(self):
        self.assertEqual([], self.found((1, 1, 1, [])))
        self.assertEqual([], self.found((1, 1, 1, [((1,), (1,), (1,))])))
        self.assertEqual([], self.found((1, 1, 1, [((1,), (2,), (3,)), ((2,), (3,), (1,))])))

    def test_each_side_both_ways(self):
        for side in range(3):
            one, other = [(1, 2), (3, 4), (5, 6)], [(7, 8), (9, 10), (11, 12)]
            other[side] = one[side]
            told = self.found((2, 2, 2, [tuple(one), tuple(other)]))
            self.assertEqual([(0, 1, side), (1, 0, side)], told)

    def test_several(self):
        products = [((1,), (2,), (3,)), ((1,), (4,), (3,)), ((5,), (4,), (3,)), ((5,), (2,), (6,))]
        wanted = [(0, 1, 0), (0, 1, 2), (0, 2, 2), (0, 3, 1), (1, 0, 0), (1, 0, 2), (1, 2, 1), (1, 2, 2),
                  (2, 0, 2), (2, 1, 1), (2, 1, 2), (2, 3, 0), (3, 0, 1), (3, 2, 0)]
        self.assertEqual(wanted, self.found((1, 1, 1, products)))

    def test_signs_make_parts_unlike(self):
        self.assertEqual([], self.found((1, 1, 1, [((1,), (2,), (3,)), ((-1,), (-2,), (-3,))])))

    def test_parts_of_noughts_are_alike_too(self):
        self.assertEqual([(0, 1, 1), (1, 0, 1)], self.found((1, 1, 1, [((1,), (0,), (3,)), ((2,), (0,), (4,))])))

    def test_more_than_ten_products_rise_as_numbers(self):
        told = self.found((1, 1, 12, [((1,), (at,), tuple(int(k == at) for k in range(12))) for at in range(12)]))
        self.assertEqual([(r, s, 0) for r in range(12) for s in range(12) if r != s], told)

    def test_known_schemes(self):
        self.found(seven())
        self.found(by_pairs(5))
        self.assertEqual(8 * 3, len(self.found(plain(table_task(2, 2, 2)))))

    def test_many_schemes(self):
        for seed in range(20):
            self.found(small_scheme(2, 1, 2, 1 + seed, 13 * seed))


class Flipped(unittest.TestCase):
    def flip(self, scheme, flip):
        told = asked(self, flipped, scheme, flip)
        self.assertIs(True, is_scheme(told))
        self.assertEqual(task_by(scheme), task_by(told))
        self.assertEqual(len(scheme[3]), len(told[3]))
        return told

    def none(self, scheme, flip):
        refused(self, NoFlip, flipped, scheme, flip)

    def test_side_0(self):
        products = [((1, 2), (3, 4), (5, 6)), ((1, 2), (10, 20), (70, 80))]
        self.assertEqual([((1, 2), (13, 24), (5, 6)), ((1, 2), (10, 20), (65, 74))],
                         self.flip((2, 2, 2, products), (0, 1, 0))[3])
        self.assertEqual([((1, 2), (3, 4), (-65, -74)), ((1, 2), (13, 24), (70, 80))],
                         self.flip((2, 2, 2, products), (1, 0, 0))[3])

    def test_side_1(self):
        products = [((1, 2), (3, 4), (5, 6)), ((10, 20), (3, 4), (70, 80))]
        self.assertEqual([((11, 22), (3, 4), (5, 6)), ((10, 20), (3, 4), (65, 74))],
                         self.flip((2, 2, 2, products), (0, 1, 1))[3])
        self.assertEqual([((1, 2), (3, 4), (-65, -74)), ((11, 22), (3, 4), (70, 80))],
                         self.flip((2, 2, 2, products), (1, 0, 1))[3])

    def test_side_2(self):
        products = [((1, 2), (3, 4), (5, 6)), ((10, 20), (70, 80), (5, 6))]
        self.assertEqual([((11, 22), (3, 4), (5, 6)), ((10, 20), (67, 76), (5, 6))],
                         self.flip((2, 2, 2, products), (0, 1, 2))[3])
        self.assertEqual([((1, 2), (-67, -76), (5, 6)), ((11, 22), (70, 80), (5, 6))],
                         self.flip((2, 2, 2, products), (1, 0, 2))[3])

    def test_unlike_lengths_and_other_products_between(self):
        products = [((9,), (9, 9), (9, 9, 9)), ((1,), (2, 3), (4, 5, 6)), ((8,), (8, 8), (8, 8, 8)),
                    ((1,), (20, 30), (1, 1, 1)), ((7,), (7, 7), (7, 7, 7))]
        wanted = list(products)
        wanted[3], wanted[1] = ((1,), (22, 33), (1, 1, 1)), ((1,), (2, 3), (3, 4, 5))
        self.assertEqual((1, 2, 3, wanted), self.flip((1, 2, 3, products), (3, 1, 0)))

    def test_nothing_is_tidied(self):
        products = [((-1,), (2,), (5,)), ((-1,), (3,), (5,)), ((0,), (0,), (0,)), ((0,), (0,), (0,))]
        self.assertEqual([((-1,), (5,), (5,)), ((-1,), (3,), (0,)), ((0,), (0,), (0,)), ((0,), (0,), (0,))],
                         self.flip((1, 1, 1, products), (0, 1, 0))[3])

    def test_each_flip_of_many_schemes(self):
        for scheme in [seven(), by_pairs(3), plain(table_task(2, 2, 2))] + \
                [small_scheme(2, 1, 2, 6, 7 * seed) for seed in range(10)]:
            for r, s, side in flips(scheme):
                told = self.flip(scheme, (r, s, side))
                for at, product in enumerate(told[3]):
                    if at not in (r, s):
                        self.assertEqual(scheme[3][at], product)

    def test_just_those_that_flips_has(self):
        for scheme in [seven(), by_pairs(2), (1, 1, 1, []), small_scheme(1, 1, 1, 4, 5)]:
            there, many = flips(scheme), len(scheme[3])
            for flip in itertools.product(range(-2, many + 2), range(-2, many + 2), range(-2, 5)):
                if flip in there:
                    flipped(scheme, flip)
                else:
                    self.assertRaises(NoFlip, flipped, scheme, flip)

    def test_a_flip_that_is_not_there(self):
        products = [((1,), (2,), (3,)), ((1,), (4,), (5,)), ((6,), (7,), (8,))]
        for flip in [(0, 1, 1), (0, 1, 2), (0, 2, 0), (2, 1, 1)]:
            self.none((1, 1, 1, products), flip)

    def test_one_product_with_itself(self):
        for side in range(3):
            self.none((1, 1, 1, [((1,), (2,), (3,)), ((1,), (2,), (3,))]), (1, 1, side))

    def test_numbers_below_nought_and_beyond_the_products(self):
        scheme = (1, 1, 1, [((1,), (2,), (3,)), ((1,), (2,), (3,))])
        for flip in [(-1, 0, 0), (0, -1, 0), (-2, -1, 0), (-2, 1, 0), (2, 0, 0), (0, 2, 0), (1, 10 ** 30, 0),
                     (-10 ** 30, 0, 0), (0, 1, 3), (0, 1, -1), (0, 1, -3), (0, 1, 10 ** 30)]:
            self.none(scheme, flip)

    def test_a_scheme_without_products(self):
        self.none((1, 1, 1, []), (0, 1, 0))
        self.none((1, 1, 1, []), (0, 0, 0))

    def test_back_again(self):
        scheme = (2, 2, 2, [((1, 2), (3, 4), (5, 6)), ((1, 2), (10, 20), (70, 80))])
        self.assertEqual(scheme[:3], flipped(flipped(scheme, (0, 1, 0)), (1, 0, 0))[:3])
        self.assertEqual(task_by(scheme), task_by(flipped(flipped(scheme, (0, 1, 0)), (1, 0, 0))))


if __name__ == "__main__":
    unittest.main()
