"""[2], [3] and [12]: programs run with two rows."""

import unittest

from asking import asked, numbers, refused
from fewtimes.errors import BadStep
from fewtimes.running import run_program

ONE = [2, 3]
OTHER = [5, 7, 11]

# Ahead of a step that is looked at: rooms 0, 1 and 2 hold a left sum, a right sum and a product.
AHEAD = [("left", 0, [(1, 0)]), ("right", 1, [(1, 1)]), ("times", 2, 0, 1)]


class Running(unittest.TestCase):
    def told(self, program, one=ONE, other=OTHER, many=1):
        answer = asked(self, run_program, program, one, other, many)
        self.assertIs(tuple, type(answer))
        self.assertIs(list, type(answer[0]))
        return answer

    def holds(self, steps, room):
        """What a room holds behind these steps."""
        return self.told(steps + [("tell", 0, room)])[0][0]

    def test_no_step_at_all(self):
        self.assertEqual(([0], 0, 0, 0), self.told([]))
        self.assertEqual(([0, 0, 0], 0, 0, 0), self.told([], many=3))

    def test_left_and_right(self):
        self.assertEqual(2 * 10 - 3 * 4, self.holds([("left", 5, [(10, 0), (-4, 1)])], 5))
        self.assertEqual(5 * 2 + 11 * 9, self.holds([("right", 5, [(9, 2), (2, 0)])], 5))
        self.assertEqual(3, self.holds([("left", 5, [(1, 1)])], 5))
        self.assertEqual(0, self.holds([("right", 5, [(0, 1)])], 5))

    def test_several_parts_of_one_number(self):
        self.assertEqual(3 * (4 + 5 - 2) + 2, self.holds([("left", 0, [(4, 1), (5, 1), (1, 0), (-2, 1)])], 0))
        self.assertEqual(0, self.holds([("right", 0, [(4, 1), (-4, 1)])], 0))
        self.assertEqual(3, self.told([("left", 0, [(4, 1), (5, 1), (1, 0), (-2, 1)])])[2])

    def test_times(self):
        self.assertEqual(14, self.holds(AHEAD, 2))
        self.assertEqual(14, self.holds(AHEAD[:2] + [("times", 9, 1, 0)], 9))
        self.assertEqual(4, self.holds(AHEAD[:1] + [("times", 9, 0, 0)], 9))
        self.assertEqual(14 * 14, self.holds(AHEAD + [("times", 2, 2, 2)], 2))

    def test_put(self):
        self.assertEqual(-42, self.holds(AHEAD + [("put", 3, -3, 2)], 3))
        self.assertEqual(14, self.holds(AHEAD + [("put", 3, -3, 2)], 2))
        self.assertEqual(0, self.holds(AHEAD + [("put", 3, 0, 2)], 3))
        self.assertEqual(10, self.holds([("left", 0, [(1, 0)]), ("put", 1, 5, 0)], 1))

    def test_add(self):
        self.assertEqual(14 + 3 * 7, self.holds(AHEAD + [("add", 2, 3, 1)], 2))
        self.assertEqual(7, self.holds(AHEAD + [("add", 2, 3, 1)], 1))
        self.assertEqual(14, self.holds(AHEAD + [("add", 2, 0, 0)], 2))

    def test_add_of_a_room_to_itself(self):
        self.assertEqual(14 + 3 * 14, self.holds(AHEAD + [("add", 2, 3, 2)], 2))
        self.assertEqual(0, self.holds(AHEAD + [("add", 2, -1, 2)], 2))

    def test_a_room_held_anew_by_each_kind_of_step(self):
        self.assertEqual(6, self.holds(AHEAD + [("left", 2, [(2, 1)])], 2))
        self.assertEqual(22, self.holds(AHEAD + [("right", 2, [(2, 2)])], 2))
        self.assertEqual(49, self.holds(AHEAD + [("times", 2, 1, 1)], 2))
        self.assertEqual(98, self.holds(AHEAD + [("times", 1, 2, 1)], 1))
        self.assertEqual(4, self.holds(AHEAD + [("put", 2, 2, 0)], 2))
        self.assertEqual(28, self.holds(AHEAD + [("put", 2, 2, 2)], 2))
        self.assertEqual(16, self.holds(AHEAD + [("add", 2, 1, 0)], 2))
        self.assertEqual(3, self.told(AHEAD + [("left", 2, [(2, 1)]), ("put", 2, 2, 0)])[3])

    def test_a_room_emptied_and_held_again(self):
        self.assertEqual(5, self.holds(AHEAD + [("empty", 2), ("right", 2, [(1, 0)])], 2))
        steps = AHEAD + [("tell", 1, 2), ("right", 2, [(1, 0)]), ("tell", 0, 2)]
        self.assertEqual([5, 14], self.told(steps, many=2)[0])

    def test_the_first_and_the_last_room(self):
        steps = [("left", 0, [(1, 0)]), ("right", 999, [(1, 0)]), ("times", 999, 0, 999), ("tell", 0, 999)]
        self.assertEqual(([10], 1, 0, 2), self.told(steps))
        steps = [("left", room, [(room, 0)]) for room in range(1000)] + [("tell", 0, 999)]
        self.assertEqual(([1998], 0, 0, 1000), self.told(steps))

    def test_told_numbers_that_no_step_tells(self):
        self.assertEqual(([0, 0, 14, 0], 1, 0, 3), self.told(AHEAD + [("tell", 2, 2)], many=4))

    def test_numbers_told_in_any_order(self):
        steps = AHEAD + [("tell", 2, 1), ("tell", 0, 2), ("tell", 1, 0)]
        self.assertEqual([14, 2, 7], self.told(steps, many=3)[0])

    def test_rooms_need_not_be_emptied(self):
        self.assertEqual(([0], 1, 0, 3), self.told(AHEAD))

    def test_counts_of_multiplyings(self):
        steps = AHEAD + [("times", 3, 2, 2), ("put", 4, 7, 3), ("times", 3, 4, 4), ("add", 3, 5, 4)]
        self.assertEqual(3, self.told(steps)[1])

    def test_counts_of_sums(self):
        steps = [("left", 0, [(1, 0)]), ("left", 1, [(1, 0), (2, 1)]), ("right", 2, [(1, 0), (0, 1), (1, 1), (1, 2)]),
                 ("put", 3, 5, 2), ("add", 3, 1, 1), ("add", 3, 0, 1), ("times", 4, 3, 3)]
        self.assertEqual(0 + 1 + 3 + 2, self.told(steps)[2])

    def test_the_most_rooms_behind_any_step(self):
        steps = [("left", 0, [(1, 0)]), ("left", 1, [(1, 0)]), ("empty", 0), ("left", 2, [(1, 0)]), ("empty", 1),
                 ("empty", 2)]
        self.assertEqual(2, self.told(steps)[3])
        self.assertEqual(1, self.told([("left", 7, [(1, 0)])])[3])
        self.assertEqual(1, self.told([("left", 7, [(1, 0)]), ("tell", 0, 7), ("left", 8, [(1, 1)])])[3])
        # A tell empties its room, so the next one held is no fourth.
        steps = AHEAD + [("tell", 0, 2), ("left", 3, [(1, 0)])]
        self.assertEqual(3, self.told(steps)[3])
        self.assertEqual(4, self.told(AHEAD + [("left", 3, [(1, 0)])])[3])

    def test_great_numbers(self):
        steps = [("left", 0, [(10 ** 50, 0)]), ("right", 1, [(-10 ** 50, 0)]), ("times", 2, 0, 1),
                 ("add", 2, 10 ** 99, 2), ("tell", 0, 2)]
        wanted = -10 ** 200 * (1 + 10 ** 99)
        self.assertEqual(([wanted], 1, 1, 3), self.told(steps, [10 ** 50], [10 ** 50]))

    def test_one_list_at_several_places(self):
        parts, row = [(1, 0), (2, 1)], [3, 4]
        steps = [("left", 0, parts), ("right", 1, parts), ("times", 2, 0, 1), ("tell", 0, 2)]
        self.assertEqual(([121], 1, 2, 3), self.told(steps, row, row))

    def test_a_long_program(self):
        one, other = numbers(81, 1, 10 ** 9), numbers(81, 2, 10 ** 9)
        steps = []
        for at in range(81):
            steps += [("left", 0, [(1, at)]), ("right", 1, [(1, at)]), ("times", 2, 0, 1)]
            steps += [("put", 3, 1, 2)] if at == 0 else [("add", 3, 1, 2)]
        steps += [("tell", 80, 3)]
        row = [0] * 80 + [sum(x * y for x, y in zip(one, other))]
        self.assertEqual((row, 81, 80, 4), self.told(steps, one, other, 81))


class Refused(unittest.TestCase):
    def bad(self, step, program, one=ONE, other=OTHER, many=2):
        self.assertEqual(step, refused(self, BadStep, run_program, program, one, other, many).step)

    def test_an_empty_room_is_read(self):
        for step in [("times", 4, 3, 1), ("times", 4, 0, 3), ("times", 4, 3, 3), ("times", 3, 3, 0), ("put", 4, 1, 3),
                     ("put", 3, 1, 3), ("add", 2, 1, 3), ("add", 3, 1, 2), ("add", 3, 1, 3), ("empty", 3),
                     ("tell", 0, 3)]:
            self.bad(3, AHEAD + [step])
            self.bad(0, [step])

    def test_by_nought_it_is_read_all_the_same(self):
        self.bad(3, AHEAD + [("put", 4, 0, 3)])
        self.bad(3, AHEAD + [("add", 2, 0, 3)])
        self.bad(3, AHEAD + [("add", 3, 0, 2)])

    def test_a_number_that_the_row_has_not(self):
        for i in (2, 3, 100, -1, -2):
            self.bad(0, [("left", 0, [(1, i)])])
            self.bad(0, [("left", 0, [(1, 0), (0, i)])])
            self.bad(0, [("left", 0, [(1, i), (1, 0)])])
        for j in (3, 4, 100, -1, -3):
            self.bad(1, [("left", 0, [(1, 0)]), ("right", 0, [(1, j)])])
            self.bad(1, [("left", 0, [(1, 0)]), ("right", 0, [(1, 0), (0, j)])])
        asked(self, run_program, [("left", 0, [(1, 1)]), ("right", 0, [(1, 2)])], ONE, OTHER, 1)

    def test_each_row_has_its_own_length(self):
        self.bad(1, [("right", 0, [(1, 2)]), ("left", 0, [(1, 2)])])
        self.bad(1, [("left", 0, [(1, 2)]), ("right", 0, [(1, 2)])], OTHER, ONE)

    def test_a_k_that_is_not_there(self):
        for k in (2, 3, 81, -1, -2):
            self.bad(3, AHEAD + [("tell", k, 2)])
        asked(self, run_program, AHEAD + [("tell", 1, 2)], ONE, OTHER, 2)

    def test_a_k_that_was_told_already(self):
        self.bad(4, AHEAD + [("tell", 1, 2), ("tell", 1, 0)])
        self.bad(5, AHEAD + [("tell", 1, 2), ("tell", 0, 0), ("tell", 1, 1)])
        # Also where what was told was 0.
        self.bad(4, [("left", 0, [(0, 0)]), ("left", 1, [(1, 0)]), ("tell", 0, 0), ("left", 0, [(0, 0)]),
                     ("tell", 0, 1)])

    def test_a_room_that_tell_or_empty_made_empty(self):
        for ahead in [("tell", 1, 2), ("empty", 2)]:
            for step in [("times", 3, 2, 0), ("times", 3, 0, 2), ("put", 3, 1, 2), ("add", 2, 1, 0), ("add", 0, 1, 2),
                         ("empty", 2), ("tell", 0, 2)]:
                self.bad(4, AHEAD + [ahead, step])

    def test_the_first_such_step_goes(self):
        self.bad(1, [("left", 0, [(1, 0)]), ("empty", 1), ("tell", 9, 0), ("left", 0, [(1, 9)])])
        self.bad(0, [("tell", 9, 0), ("empty", 1)])
        self.bad(5, AHEAD + AHEAD[:2] + [("put", 0, 1, 7), ("put", 0, 1, 8)])

    def test_it_can_be_caught_as_a_value_error(self):
        with self.assertRaises(ValueError):
            run_program([("empty", 0)], ONE, OTHER, 1)

    def test_the_same_program_is_run_after_a_refusal(self):
        program = AHEAD + [("tell", 1, 2)]
        self.bad(3, program, many=1)
        self.assertEqual(([0, 14], 1, 0, 3), asked(self, run_program, program, ONE, OTHER, 2))


if __name__ == "__main__":
    unittest.main()
