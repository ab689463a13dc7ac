"""[2], [3] and [14]: programs out of schemes, the rooms they take, and the order that takes the fewest."""

import itertools
import unittest

from asking import asked, numbers, scheme_of
from fewtimes.combining import tables_within
from fewtimes.known import by_pairs, plain, seven
from fewtimes.programs import best_order, program_of, room_for
from fewtimes.reading import read_program
from fewtimes.running import run_program
from fewtimes.schemes import applied, task_by
from fewtimes.tasks import line_task, table_task

# Three products with numbers other than 1; told number 1 has none of them.
SMALL = (2, 3, 4, [((0, 5), (2, 0, -3), (7, 0, 0, -1)),
                   ((4, 1), (0, 6, 0), (0, 0, 9, 0)),
                   ((-1, 0), (1, 1, 1), (8, 0, 0, 2))])

# Products 0, 2, 3 and 5 have a part of noughts.
NOUGHTS = (2, 2, 2, [((0, 0), (1, 1), (1, 1)), ((1, 0), (1, 0), (1, 0)), ((1, 1), (0, 0), (1, 1)),
                     ((1, 1), (1, 1), (0, 0)), ((0, 1), (0, 1), (2, 3)), ((0, 0), (0, 0), (0, 0))])


def written(scheme, order):
    """The program, step by step as the document's words go."""
    products = scheme[3]
    steps, rooms, held = [], {}, set()

    def empty_room():
        return min(set(range(200)) - held)

    def taken():
        room = empty_room()
        held.add(room)
        return room

    for turn, number in enumerate(order):
        l, r, o = products[number]
        if not any(l) or not any(r) or not any(o):
            continue
        left = taken()
        steps.append(("left", left, [(l[i], i) for i in range(len(l)) if l[i]]))
        right = taken()
        steps.append(("right", right, [(r[j], j) for j in range(len(r)) if r[j]]))
        product = taken()
        steps.append(("times", product, left, right))
        for room in (left, right):
            held.remove(room)
            steps.append(("empty", room))
        for k in range(len(o)):
            if o[k] and k in rooms:
                steps.append(("add", rooms[k], o[k], product))
            elif o[k]:
                rooms[k] = taken()
                steps.append(("put", rooms[k], o[k], product))
        held.remove(product)
        steps.append(("empty", product))
        later = [products[at] for at in order[turn + 1:] if all(any(part) for part in products[at])]
        for k in range(len(o)):
            if k in rooms and all(z[k] == 0 for x, y, z in later):
                held.remove(rooms[k])
                steps.append(("tell", k, rooms.pop(k)))
    return steps


def sparse_scheme(left, right, many, count, seed):
    """A scheme of which many numbers, and some whole parts, are 0."""
    scheme = scheme_of(left, right, many, count, seed, 4)
    thin = [tuple(tuple(x if x % 2 else 0 for x in part) for part in product) for product in scheme[3]]
    return (left, right, many, thin)


SCHEMES = [SMALL, NOUGHTS, by_pairs(1), by_pairs(3), seven(), plain(table_task(1, 2, 2)), (3, 4, 5, []),
           (1, 1, 1, [((0,), (1,), (1,))])] + [sparse_scheme(3, 3, 4, 4, 10 * seed) for seed in range(12)]


class ProgramOf(unittest.TestCase):
    def made(self, scheme, order):
        program = asked(self, program_of, scheme, order)
        self.assertEqual(written(scheme, order), program)
        left, right, many = scheme[:3]
        self.assertEqual(task_by(scheme), read_program(program, left, right, many))
        return program

    def test_a_small_scheme_in_its_own_order(self):
        wanted = [("left", 0, [(5, 1)]), ("right", 1, [(2, 0), (-3, 2)]), ("times", 2, 0, 1),
                  ("empty", 0), ("empty", 1), ("put", 0, 7, 2), ("put", 1, -1, 2), ("empty", 2),
                  ("left", 2, [(4, 0), (1, 1)]), ("right", 3, [(6, 1)]), ("times", 4, 2, 3),
                  ("empty", 2), ("empty", 3), ("put", 2, 9, 4), ("empty", 4), ("tell", 2, 2),
                  ("left", 2, [(-1, 0)]), ("right", 3, [(1, 0), (1, 1), (1, 2)]), ("times", 4, 2, 3),
                  ("empty", 2), ("empty", 3), ("add", 0, 8, 4), ("add", 1, 2, 4), ("empty", 4),
                  ("tell", 0, 0), ("tell", 3, 1)]
        self.assertEqual(wanted, self.made(SMALL, [0, 1, 2]))

    def test_a_small_scheme_in_another_order(self):
        wanted = [("left", 0, [(4, 0), (1, 1)]), ("right", 1, [(6, 1)]), ("times", 2, 0, 1),
                  ("empty", 0), ("empty", 1), ("put", 0, 9, 2), ("empty", 2), ("tell", 2, 0),
                  ("left", 0, [(-1, 0)]), ("right", 1, [(1, 0), (1, 1), (1, 2)]), ("times", 2, 0, 1),
                  ("empty", 0), ("empty", 1), ("put", 0, 8, 2), ("put", 1, 2, 2), ("empty", 2),
                  ("left", 2, [(5, 1)]), ("right", 3, [(2, 0), (-3, 2)]), ("times", 4, 2, 3),
                  ("empty", 2), ("empty", 3), ("add", 0, 7, 4), ("add", 1, -1, 4), ("empty", 4),
                  ("tell", 0, 0), ("tell", 3, 1)]
        self.assertEqual(wanted, self.made(SMALL, [1, 2, 0]))

    def test_the_least_empty_room_is_taken_each_time(self):
        wanted = [("left", 0, [(1, 0)]), ("right", 1, [(1, 0)]), ("times", 2, 0, 1), ("empty", 0), ("empty", 1),
                  ("put", 0, 1, 2), ("put", 1, -1, 2), ("empty", 2), ("tell", 0, 0),
                  ("left", 0, [(1, 1)]), ("right", 2, [(1, 1)]), ("times", 3, 0, 2), ("empty", 0), ("empty", 2),
                  ("add", 1, -1, 3), ("put", 0, 1, 3), ("empty", 3), ("tell", 2, 0),
                  ("left", 0, [(1, 0), (1, 1)]), ("right", 2, [(1, 0), (1, 1)]), ("times", 3, 0, 2),
                  ("empty", 0), ("empty", 2), ("add", 1, 1, 3), ("empty", 3), ("tell", 1, 1)]
        self.assertEqual(wanted, self.made(by_pairs(2), [0, 1, 2]))

    def test_more_new_numbers_than_rooms_left_free(self):
        scheme = (1, 1, 4, [((1,), (1,), (1, 2, 3, 4)), ((1,), (2,), (5, 0, 0, 6))])
        wanted = [("left", 0, [(1, 0)]), ("right", 1, [(1, 0)]), ("times", 2, 0, 1), ("empty", 0), ("empty", 1),
                  ("put", 0, 1, 2), ("put", 1, 2, 2), ("put", 3, 3, 2), ("put", 4, 4, 2), ("empty", 2),
                  ("tell", 1, 1), ("tell", 2, 3),
                  ("left", 1, [(1, 0)]), ("right", 2, [(2, 0)]), ("times", 3, 1, 2), ("empty", 1), ("empty", 2),
                  ("add", 0, 5, 3), ("add", 4, 6, 3), ("empty", 3), ("tell", 0, 0), ("tell", 3, 4)]
        self.assertEqual(wanted, self.made(scheme, [0, 1]))

    def test_products_with_a_part_of_noughts_are_passed_over_at_any_place(self):
        whole = (2, 2, 2, [NOUGHTS[3][1], NOUGHTS[3][4]])
        first, second = program_of(whole, [0, 1]), program_of(whole, [1, 0])
        self.assertEqual(14 + 3, len(first))
        for order in itertools.permutations(range(6)):
            wanted = first if order.index(1) < order.index(4) else second
            self.assertEqual(wanted, program_of(NOUGHTS, list(order)))
        self.assertEqual(first, self.made(NOUGHTS, [0, 1, 2, 3, 4, 5]))
        self.assertEqual(second, self.made(NOUGHTS, [4, 0, 3, 2, 5, 1]))

    def test_a_later_product_that_is_passed_over_keeps_nothing_from_being_told(self):
        scheme = (1, 1, 2, [((1,), (1,), (1, 0)), ((0,), (1,), (1, 1)), ((1,), (1,), (0, 1))])
        wanted = [("left", 0, [(1, 0)]), ("right", 1, [(1, 0)]), ("times", 2, 0, 1), ("empty", 0), ("empty", 1),
                  ("put", 0, 1, 2), ("empty", 2), ("tell", 0, 0)]
        self.assertEqual(wanted, self.made(scheme, [0, 1, 2])[:8])

    def test_no_products_but_of_noughts(self):
        self.assertEqual([], self.made((2, 3, 4, []), []))
        scheme = (1, 1, 1, [((0,), (1,), (1,)), ((1,), (1,), (0,))])
        self.assertEqual([], self.made(scheme, [1, 0]))

    def test_it_is_read_to_the_task_in_each_order(self):
        for scheme in SCHEMES:
            orders = list(itertools.permutations(range(len(scheme[3]))))
            for order in orders[::max(1, len(orders) // 24)] + orders[-1:]:
                self.made(scheme, list(order))

    def test_running_tells_what_the_scheme_tells(self):
        scheme = tables_within(seven(), (2, 2, 2), seven(), (2, 2, 2))
        one, other = numbers(16, 1, 10 ** 9), numbers(16, 2, 10 ** 9)
        for order in [list(range(49)), list(range(48, -1, -1)), [at * 10 % 49 for at in range(49)]]:
            row, times, sums, rooms = run_program(self.made(scheme, order), one, other, 16)
            self.assertEqual(applied(scheme, one, other), row)
            self.assertEqual(49, times)

    def test_many_products_and_long_rows(self):
        self.made(by_pairs(25), list(range(325)))
        scheme = scheme_of(81, 81, 81, 400, 3, 1)
        self.assertEqual(written(scheme, list(range(400))), program_of(scheme, list(range(400))))


class RoomFor(unittest.TestCase):
    def test_against_running_it(self):
        for scheme in SCHEMES:
            left, right, many, products = scheme
            orders = list(itertools.permutations(range(len(products))))
            for order in orders[::max(1, len(orders) // 24)]:
                program = written(scheme, order)
                rooms = run_program(program, numbers(left, 1, 9), numbers(right, 2, 9), many)[3]
                self.assertEqual(rooms, asked(self, room_for, scheme, list(order)))

    def test_told_numbers_of_rooms(self):
        self.assertEqual(0, asked(self, room_for, (1, 1, 1, []), []))
        self.assertEqual(0, asked(self, room_for, (1, 1, 1, [((0,), (1,), (1,))]), [0]))
        self.assertEqual(3, asked(self, room_for, by_pairs(1), [0]))
        self.assertEqual(5, asked(self, room_for, SMALL, [0, 1, 2]))
        self.assertEqual(5, asked(self, room_for, (1, 1, 4, [((1,), (1,), (1, 2, 3, 4))]), [0]))
        self.assertEqual(82, asked(self, room_for, (1, 1, 81, [((1,), (1,), (1,) * 81)]), [0]))

    def test_many_products(self):
        self.assertEqual(50, asked(self, room_for, by_pairs(25), list(range(325))))


class BestOrder(unittest.TestCase):
    def best(self, scheme):
        """The answer, held against all orders."""
        orders = [list(order) for order in itertools.permutations(range(len(scheme[3])))]
        rooms = [room_for(scheme, order) for order in orders]
        least = min(rooms)
        told = asked(self, best_order, scheme)
        self.assertIs(tuple, type(told))
        self.assertEqual((least, orders[rooms.index(least)]), told)
        return told

    def test_none_and_one(self):
        self.assertEqual((0, []), self.best((2, 2, 2, [])))
        self.assertEqual((3, [0]), self.best(by_pairs(1)))
        self.assertEqual((5, [0]), self.best((1, 1, 4, [((1,), (1,), (1, 2, 3, 4))])))
        self.assertEqual((0, [0]), self.best((1, 1, 1, [((1,), (0,), (1,))])))

    def test_the_first_of_several_best_orders(self):
        self.assertEqual((3, [0, 1, 2, 3]), self.best(plain(table_task(2, 1, 2))))
        self.assertEqual((4, [0, 1, 2, 3]), self.best(plain(table_task(1, 4, 1))))
        # Told numbers 0 and 1 by turns: one is made whole ahead of the other.
        products = [((1,), (1,), (1, 0)), ((1,), (1,), (0, 1)), ((1,), (2,), (1, 0)), ((1,), (2,), (0, 1))]
        self.assertEqual((4, [0, 2, 1, 3]), self.best((1, 1, 2, products)))

    def test_an_order_that_is_no_better_than_needed(self):
        # One product needs six rooms by itself, so that the others, which could do with four, may come as they stand.
        others = [((1,), (1,), (1, 0) + (0,) * 5), ((1,), (1,), (0, 1) + (0,) * 5),
                  ((1,), (2,), (1, 0) + (0,) * 5), ((1,), (2,), (0, 1) + (0,) * 5)]
        great = ((1,), (1,), (0, 0) + (1,) * 5)
        self.assertEqual((4, [0, 2, 1, 3]), self.best((1, 1, 7, others)))
        self.assertEqual((6, [0, 1, 2, 3, 4]), self.best((1, 1, 7, [great] + others)))
        self.assertEqual((6, [0, 1, 2, 3, 4]), self.best((1, 1, 7, others + [great])))
        self.assertEqual((6, [0, 2, 3, 4, 1]), self.best((1, 1, 7, others[:1] + [great] + others[1:])))

    def test_passed_over_products_stand_where_they_come_first(self):
        self.best(NOUGHTS)
        for at in range(5):
            products = [((1,), (1,), (1, 0)), ((1,), (1,), (0, 1)), ((1,), (2,), (1, 0)), ((1,), (2,), (0, 1))]
            products.insert(at, ((0,), (1,), (1, 1)))
            self.assertEqual(4, self.best((1, 1, 2, products))[0])
        self.assertEqual((0, [0, 1, 2]), self.best((1, 1, 1, [((0,), (1,), (1,))] * 3)))

    def test_small_schemes(self):
        for scheme in SCHEMES:
            if len(scheme[3]) < 7:
                self.best(scheme)
        for seed in range(30):
            self.best(sparse_scheme(2, 2, 5, 5, 1000 + 17 * seed))

    def test_schemes_whose_told_numbers_lie_apart(self):
        orders = []
        for seed in range(20):
            outs = [tuple(x if abs(x) == 3 else 0 for x in numbers(7, 90 * seed + at, 4)) for at in range(6)]
            orders.append(self.best((1, 1, 7, [((1,), (at + 1,), o) for at, o in enumerate(outs)])))
        self.assertGreater(len([order for room, order in orders if order != [0, 1, 2, 3, 4, 5]]), 5)

    def test_seven_products(self):
        self.best(seven())

    def test_nine_products(self):
        nine = plain(line_task(3, 3))
        told = asked(self, best_order, nine)
        self.assertEqual((4, [0, 1, 3, 2, 4, 6, 5, 7, 8]), told)
        self.assertEqual(4, room_for(nine, told[1]))
        scheme = sparse_scheme(3, 3, 81, 9, 5)
        room, order = asked(self, best_order, scheme)
        self.assertEqual(list(range(9)), sorted(order))
        self.assertEqual(room, room_for(scheme, order))

    def test_the_order_may_be_handed_in_again(self):
        for scheme in [SMALL, seven(), by_pairs(3)]:
            room, order = best_order(scheme)
            self.assertEqual(room, asked(self, room_for, scheme, order))


if __name__ == "__main__":
    unittest.main()
