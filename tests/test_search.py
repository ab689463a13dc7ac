"""[1], [2], [3] and [16]: schemes walked by flips, and the fewest products within a few flips."""

import unittest

from asking import asked, numbers, scheme_of
from fewtimes.combining import tables_within, within
from fewtimes.known import by_pairs, plain, seven
from fewtimes.moves import flipped, flips, tidied
from fewtimes.schemes import applied, does, is_scheme, task_by
from fewtimes.search import fewest_within, walked
from fewtimes.tasks import line_task, ring_task, table_task, value_of

# Its products have no part in common, also when tidied: there is no flip.
NO_FLIP = (2, 2, 2, [((1, 0), (1, 1), (1, 2)), ((0, 1), (1, 2), (1, 3)), ((1, 1), (1, 3), (1, 4))])

# Flips of the plain scheme of line_task(2, 3), the second of which leaves five products of six.
SHRINKING = [3, 5, 0, 4, 1, 0]


def small_scheme(left, right, many, count, seed):
    """A scheme of small numbers, so that parts are often alike, or of noughts."""
    return scheme_of(left, right, many, count, seed, 1)


def path_walked(scheme, chosen):
    """All schemes of a walk, as the document's words go."""
    met = [tidied(scheme)]
    for number in chosen:
        there = flips(met[-1])
        if not there:
            break
        flip = there[number - len(there) * (number // len(there))]
        met.append(tidied(flipped(met[-1], flip)))
    return met


class Walked(unittest.TestCase):
    def walk(self, scheme, chosen):
        """The answer, held against the document's words and the task."""
        told = asked(self, walked, scheme, chosen)
        self.assertIs(tuple, type(told))
        counts, best = told
        met = path_walked(scheme, chosen)
        self.assertEqual([len(made[3]) for made in met], counts)
        first = [made for made in met if len(made[3]) == min(counts)][0]
        self.assertEqual(first, best)
        self.assertIs(True, is_scheme(best))
        self.assertEqual(task_by(scheme), task_by(best))
        self.assertEqual(sorted(counts, reverse=True), counts, "a move made more products")
        return told

    def test_no_number(self):
        self.assertEqual(([7], tidied(seven())), self.walk(seven(), []))
        self.assertEqual(([0], (1, 2, 3, [])), self.walk((1, 2, 3, []), []))

    def test_first_it_is_tidied(self):
        product = ((-1,), (2,), (3,))
        untidy = (1, 1, 1, [product, product, ((0,), (1,), (1,))])
        self.assertEqual(([1], (1, 1, 1, [((1,), (2,), (-6,))])), self.walk(untidy, []))
        self.assertEqual(([1], (1, 1, 1, [((1,), (2,), (-6,))])), self.walk(untidy, [5]))

    def test_one_number_chooses_the_flip_by_its_remainder(self):
        scheme = plain(line_task(2, 2))
        there = flips(scheme)
        self.assertEqual(10, len(there))
        for number in list(range(-25, 26)) + [10 ** 30 + 7, -10 ** 30 - 7]:
            counts, best = self.walk(scheme, [number])
            self.assertEqual([4, 4], counts)
            # As many products as ahead of the flip: the best one is the first.
            self.assertEqual(scheme, best)

    def test_a_flip_that_leaves_fewer(self):
        products = [((1, 0), (1, 0), (1, 0)), ((1, 0), (0, 1), (1, 1)), ((0, 1), (1, 1), (1, 0))]
        scheme = (2, 2, 2, products)
        self.assertEqual([(0, 1, 0), (0, 2, 2), (1, 0, 0), (2, 0, 2)], flips(scheme))
        # The first flip and the last one leave one product fewer each, and unlike ones.
        for number in (0, 4, -4, -8, 4 * 10 ** 20, -4 * 10 ** 20):
            wanted = (2, 2, 2, [((1, 1), (1, 1), (1, 0)), ((1, 0), (0, 1), (0, 1))])
            self.assertEqual(([3, 2], wanted), self.walk(scheme, [number]))
        for number in (3, 7, -1, -5, 4 * 10 ** 20 + 3, -4 * 10 ** 20 - 1):
            wanted = (2, 2, 2, [((1, 0), (0, 1), (0, 1)), ((1, 1), (1, 1), (1, 0))])
            self.assertEqual(([3, 2], wanted), self.walk(scheme, [number]))
        for number in (1, 2, 5, -2, -3, 4 * 10 ** 20 + 1, -4 * 10 ** 20 - 2):
            self.assertEqual(([3, 3], scheme), self.walk(scheme, [number]))

    def test_several_numbers(self):
        counts, best = self.walk(plain(line_task(2, 3)), SHRINKING)
        self.assertEqual([6, 6, 5, 5, 5, 5, 5], counts)
        wanted = [((1, 0), (1, 0, 0), (1, -1, 0, 0)), ((1, 1), (1, 1, 0), (0, 1, 0, 0)),
                  ((1, 0), (0, 0, 1), (0, 0, 1, 0)), ((0, 1), (0, 1, 0), (0, -1, 1, 0)),
                  ((0, 1), (0, 0, 1), (0, 0, 0, 1))]
        self.assertEqual((2, 3, 4, wanted), best)
        self.assertIs(True, does(best, line_task(2, 3)))
        self.assertEqual([10, 29, 43, 33], applied(best, [2, 3], [5, 7, 11]))

    def test_counts_of_the_tidied_scheme_and_behind_each_flip(self):
        counts, best = self.walk(plain(line_task(2, 3)), SHRINKING)
        for many in range(len(SHRINKING) + 1):
            self.assertEqual(counts[:many + 1], self.walk(plain(line_task(2, 3)), SHRINKING[:many])[0])

    def test_the_best_is_the_first_met_with_the_fewest(self):
        # Later schemes of the walk have as few products, and other ones.
        fewest = [made for made in path_walked(plain(line_task(2, 3)), SHRINKING) if len(made[3]) == 5]
        self.assertEqual(5, len(fewest))
        self.assertNotIn(fewest[0], fewest[1:])
        self.assertEqual(fewest[0], self.walk(plain(line_task(2, 3)), SHRINKING)[1])

    def test_it_ends_where_there_is_no_flip(self):
        self.assertEqual([], flips(tidied(NO_FLIP)))
        self.assertEqual(([3], NO_FLIP), self.walk(NO_FLIP, [1, 2, 3]))
        self.assertEqual(([0], (2, 1, 1, [])), self.walk((2, 1, 1, []), [0] * 60))
        self.assertEqual(([1], by_pairs(1)), self.walk(by_pairs(1), [-1, 5]))

    def test_it_ends_on_the_way(self):
        # One flip leaves a single product; the numbers behind it count no more.
        scheme = (1, 2, 1, [((1,), (1, 0), (1,)), ((1,), (0, 1), (2,))])
        for chosen in ([0], [0, 5], [2, -1, 7], [0] * 60):
            self.assertEqual(([2, 1], (1, 2, 1, [((1,), (1, 2), (1,))])), self.walk(scheme, chosen))
        three = [((1, 0), (1, 0), (1, -1, 0)), ((1, 1), (1, 1), (0, 1, 0)), ((0, 1), (0, 1), (0, -1, 1))]
        for chosen in ([2, 3], [2, 3, 1], [12, -5, 9, 10 ** 50, 3]):
            self.assertEqual(([4, 4, 3], (2, 2, 3, three)), self.walk(plain(line_task(2, 2)), chosen))

    def test_many_walks(self):
        for seed in range(30):
            lengths = [(2, 2, 2), (2, 1, 2), (1, 3, 2), (3, 2, 1), (2, 3, 3)][seed % 5]
            scheme = small_scheme(*lengths, 2 + seed % 7, 31 * seed)
            counts, best = self.walk(scheme, numbers(20, seed, 10 ** 9))
            one, other = numbers(lengths[0], seed, 99), numbers(lengths[1], seed + 1, 99)
            self.assertEqual(applied(scheme, one, other), applied(best, one, other))

    def test_sixty_numbers_over_known_schemes(self):
        for task in [table_task(2, 2, 2), line_task(3, 3), ring_task(3, -1), line_task(2, 4)]:
            left, right = task[:2]
            counts, best = self.walk(plain(task), numbers(60, left, 10 ** 40))
            self.assertEqual(61, len(counts))
            self.assertIs(True, does(best, task))
            one, other = numbers(left, 3, 10 ** 20), numbers(right, 4, 10 ** 20)
            self.assertEqual(value_of(task, one, other), applied(best, one, other))

    def test_schemes_made_out_of_others(self):
        four = tables_within(seven(), (2, 2, 2), plain(table_task(2, 1, 1)), (2, 1, 1))
        counts, best = self.walk(four, numbers(20, 9, 10 ** 6))
        self.assertIs(True, does(best, table_task(4, 2, 2)))
        self.walk(within(by_pairs(2), seven()), numbers(10, 10, 10 ** 6))


class FewestWithin(unittest.TestCase):
    def found(self, scheme, deep):
        """The answer, held against all paths, and against what its own path leads to."""
        told = asked(self, fewest_within, scheme, deep)
        self.assertIs(tuple, type(told))
        fewest, path = told
        ends = [([], tidied(scheme))]
        every = [(len(made[3]), len(way), way) for way, made in ends]
        for _ in range(deep):
            ends = [(way + [flip], tidied(flipped(made, flip))) for way, made in ends for flip in flips(made)]
            every += [(len(made[3]), len(way), way) for way, made in ends]
        self.assertEqual(min(every), (fewest, len(path), path))
        made = tidied(scheme)
        for flip in path:
            made = tidied(flipped(made, flip))
        self.assertEqual(fewest, len(made[3]))
        self.assertEqual(task_by(scheme), task_by(made))
        return told

    def test_no_products(self):
        for deep in range(4):
            self.assertEqual((0, []), self.found((2, 3, 1, []), deep))
            self.assertEqual((0, []), self.found((1, 1, 1, [((0,), (1,), (1,))] * 8), deep))

    def test_deep_0_is_tidied_alone(self):
        self.assertEqual((4, []), self.found(plain(line_task(2, 2)), 0))
        product = ((1,), (2,), (3,))
        self.assertEqual((1, []), self.found((1, 1, 1, [product] * 8), 0))

    def test_no_flip(self):
        for deep in range(4):
            self.assertEqual((3, []), self.found(NO_FLIP, deep))

    def test_two_lines_by_three_products(self):
        self.assertEqual((4, []), self.found(plain(line_task(2, 2)), 1))
        self.assertEqual((3, [(1, 0, 0), (1, 2, 2)]), self.found(plain(line_task(2, 2)), 2))
        # Deeper there are no fewer, so the path stays the shortest.
        self.assertEqual((3, [(1, 0, 0), (1, 2, 2)]), self.found(plain(line_task(2, 2)), 3))

    def test_one_flip(self):
        products = [((1, 0), (1, 0), (1, 0)), ((1, 0), (0, 1), (1, 1)), ((0, 1), (1, 1), (1, 0))]
        for deep in (1, 2):
            self.assertEqual((2, [(0, 1, 0)]), self.found((2, 2, 2, products), deep))

    def test_of_several_shortest_paths_the_least(self):
        # The least path to three products doesn't go on to two.
        products = [((1,), (at + 1,), tuple(int(k == at) for k in range(4))) for at in range(4)]
        self.assertEqual((3, [(0, 1, 0)]), self.found((1, 1, 4, products), 1))
        self.assertEqual((2, [(1, 0, 0), (0, 1, 0)]), self.found((1, 1, 4, products), 2))
        self.assertEqual((2, [(1, 0, 0), (0, 1, 0)]), self.found((1, 1, 4, products), 3))
        # The two flips are as good in either order: the least path begins with the least flip.
        products = [((1, 0), (1, 0), (1, 0)), ((1, 0), (0, 1), (2, 0)), ((0, 1), (1, 3), (0, 1)), ((0, 1), (3, 1), (0, 2))]
        self.assertEqual((2, [(0, 1, 0), (1, 2, 0)]), self.found((2, 2, 2, products), 2))
        self.assertEqual((3, [(0, 1, 0)]), self.found((2, 2, 2, products), 1))

    def test_three_flips(self):
        products = [((1, 1), (1, 1), (1, -1)), ((1, 0), (1, 0), (1, 1)), ((1, 1), (1, -1), (1, 0))]
        for deep in range(3):
            self.assertEqual((3, []), self.found((2, 2, 2, products), deep))
        self.assertEqual((2, [(2, 0, 0), (0, 2, 0), (1, 2, 2)]), self.found((2, 2, 2, products), 3))
        products = [((1, -1), (2, 1), (-1,)), ((1, 1), (1, 1), (-1,)), ((1, 0), (1, -1), (-1,))]
        self.assertEqual((2, [(1, 0, 2), (0, 1, 2), (1, 0, 2)]), self.found((2, 2, 1, products), 3))

    def test_eight_products(self):
        eight = plain(table_task(2, 2, 2))
        for deep in range(4):
            self.assertEqual((8, []), self.found(eight, deep))
        four = plain(line_task(2, 4))
        self.assertEqual((8, []), self.found(four, 1))
        self.assertEqual((7, [(1, 0, 0), (1, 4, 2)]), self.found(four, 2))

    def test_known_schemes(self):
        for scheme in [seven(), by_pairs(3), plain(ring_task(2, 1)), plain(ring_task(2, -1)),
                       plain(table_task(1, 2, 2))]:
            for deep in range(4):
                self.found(scheme, deep)

    def test_many_schemes(self):
        lengths_of_paths = [0] * 4
        for seed in range(80):
            lengths = [(1, 3, 2), (2, 1, 2), (2, 2, 1), (2, 2, 2)][seed % 4]
            scheme = small_scheme(*lengths, 3 + seed % 3, 29 * seed)
            for deep in range(4 if seed % 3 < 2 else 3):
                fewest, path = self.found(scheme, deep)
                lengths_of_paths[len(path)] += 1
        self.assertGreater(min(lengths_of_paths[:3]), 4)

    def test_deeper_is_never_more(self):
        for seed in range(10):
            scheme = small_scheme(2, 2, 2, 6, 23 * seed)
            counts = [self.found(scheme, deep)[0] for deep in range(3)]
            self.assertEqual(sorted(counts, reverse=True), counts)


if __name__ == "__main__":
    unittest.main()
