"""[2], [3] and [13]: programs read to tasks by their steps alone."""

import unittest

from asking import asked, numbers, refused
from fewtimes.errors import BadStep
from fewtimes.reading import read_program
from fewtimes.running import run_program
from fewtimes.tasks import line_task, task_of, value_of

# Rooms 0, 1 and 2 hold a left sum, a right sum and a product.
AHEAD = [("left", 0, [(2, 0), (-1, 1)]), ("right", 1, [(3, 2)]), ("times", 2, 0, 1)]

THREE = [("left", 0, [(1, 0)]), ("right", 1, [(1, 0)]), ("times", 2, 0, 1),
         ("left", 0, [(1, 1)]), ("right", 1, [(1, 1)]), ("times", 3, 0, 1),
         ("left", 0, [(1, 0), (1, 1)]), ("right", 1, [(1, 0), (1, 1)]), ("times", 4, 0, 1),
         ("add", 4, -1, 2), ("add", 4, -1, 3), ("tell", 0, 2), ("tell", 2, 3), ("tell", 1, 4)]


class Reading(unittest.TestCase):
    def read(self, program, left=2, right=3, many=2):
        """The task, held against running the program with several rows."""
        task = asked(self, read_program, program, left, right, many)
        self.assertEqual((left, right, many), task[:3])
        self.assertEqual(task, task_of(*task))
        self.assertTrue(all(type(term) is tuple for term in task[3]))
        for seed, bound in enumerate([0, 1, 2, 10, 10 ** 30]):
            one, other = numbers(left, seed, bound), numbers(right, seed + 40, bound)
            self.assertEqual(run_program(program, one, other, many)[0], value_of(task, one, other))
        return task

    def test_no_step_at_all(self):
        self.assertEqual((2, 3, 2, []), self.read([]))
        self.assertEqual((1, 1, 1, []), self.read([], 1, 1, 1))

    def test_one_product(self):
        self.assertEqual((2, 3, 2, [(1, 0, 2, 6), (1, 1, 2, -3)]), self.read(AHEAD + [("tell", 1, 2)]))

    def test_three_products(self):
        self.assertEqual(line_task(2, 2), self.read(THREE, 2, 2, 3))

    def test_a_program_that_tells_nothing(self):
        self.assertEqual((2, 3, 2, []), self.read(AHEAD))

    def test_put_and_add(self):
        steps = AHEAD + [("put", 3, 5, 2), ("add", 3, -7, 2), ("tell", 0, 3), ("tell", 1, 2)]
        wanted = [(0, 0, 2, -12), (0, 1, 2, 6), (1, 0, 2, 6), (1, 1, 2, -3)]
        self.assertEqual((2, 3, 2, wanted), self.read(steps))

    def test_add_of_a_room_to_itself(self):
        self.assertEqual((2, 3, 2, [(0, 0, 2, 24), (0, 1, 2, -12)]),
                         self.read(AHEAD + [("add", 2, 3, 2), ("tell", 0, 2)]))

    def test_put_keeps_the_room_that_it_reads_apart(self):
        steps = AHEAD + [("put", 3, 1, 2), ("add", 3, 1, 2), ("add", 2, 4, 3), ("tell", 0, 3), ("tell", 1, 2)]
        self.assertEqual((2, 3, 2, [(0, 0, 2, 12), (0, 1, 2, -6), (1, 0, 2, 54), (1, 1, 2, -27)]), self.read(steps))

    def test_several_parts_of_one_number(self):
        steps = [("left", 0, [(1, 1), (2, 1), (4, 0)]), ("right", 1, [(5, 0), (-4, 0)]), ("times", 2, 0, 1),
                 ("tell", 0, 2)]
        self.assertEqual((2, 3, 2, [(0, 0, 0, 4), (0, 1, 0, 3)]), self.read(steps))

    def test_sums_that_come_to_nothing(self):
        nothing = (2, 3, 2, [])
        self.assertEqual(nothing, self.read([("left", 0, [(1, 1), (-1, 1)])] + AHEAD[1:] + [("tell", 0, 2)]))
        self.assertEqual(nothing, self.read(AHEAD[:1] + [("right", 1, [(0, 0)])] + AHEAD[2:] + [("tell", 0, 2)]))
        self.assertEqual(nothing, self.read(AHEAD + [("put", 3, 0, 2), ("tell", 0, 3)]))
        self.assertEqual(nothing, self.read(AHEAD + [("add", 2, -1, 2), ("tell", 0, 2)]))
        steps = AHEAD + [("put", 3, -1, 2), ("add", 3, 1, 2), ("tell", 1, 3)]
        self.assertEqual(nothing, self.read(steps))

    def test_products_that_come_to_nothing_together(self):
        steps = AHEAD + [("left", 0, [(1, 0)]), ("times", 3, 0, 1), ("add", 2, -2, 3), ("tell", 0, 2)]
        self.assertEqual((2, 3, 2, [(0, 1, 2, -3)]), self.read(steps))

    def test_a_sum_that_came_to_nothing_is_still_one_of_its_kind(self):
        empty_left = [("left", 0, [(0, 0)]), ("right", 1, [(0, 0)]), ("times", 2, 0, 1)]
        steps = empty_left + [("put", 3, 0, 2), ("add", 3, 5, 2), ("tell", 0, 3), ("tell", 1, 2)]
        self.assertEqual((2, 3, 2, []), self.read(steps))

    def test_rooms_held_anew(self):
        steps = AHEAD + [("times", 0, 0, 1), ("tell", 0, 0), ("left", 2, [(1, 0)]), ("times", 1, 2, 1), ("tell", 1, 1)]
        self.assertEqual((2, 3, 2, [(0, 0, 2, 6), (0, 1, 2, -3), (1, 0, 2, 3)]), self.read(steps))

    def test_empty_takes_any_kind(self):
        for room in (0, 1, 2):
            self.assertEqual((2, 3, 2, []), self.read(AHEAD + [("empty", room)]))

    def test_the_kind_is_of_what_was_held_last(self):
        steps = [("right", 0, [(1, 0)]), ("left", 0, [(1, 0)]), ("left", 1, [(1, 0)]), ("right", 1, [(1, 1)]),
                 ("times", 2, 0, 1), ("tell", 0, 2)]
        self.assertEqual((2, 3, 2, [(0, 0, 1, 1)]), self.read(steps))

    def test_great_numbers_and_rooms(self):
        steps = [("left", 999, [(10 ** 40, 0)]), ("right", 0, [(-10 ** 40, 0)]), ("times", 999, 999, 0),
                 ("put", 999, 10 ** 40, 999), ("tell", 0, 999)]
        self.assertEqual((1, 1, 1, [(0, 0, 0, -10 ** 120)]), self.read(steps, 1, 1, 1))

    def test_lengths_of_81(self):
        steps, terms = [], []
        for at in range(81):
            steps += [("left", 0, [(2, at), (3, 80 - at)]), ("right", 1, [(5, at)]), ("times", 2, 0, 1),
                      ("tell", at, 2)]
            terms += [(at, at, at, 10), (at, 80 - at, at, 15)]
        self.assertEqual(task_of(81, 81, 81, terms), self.read(steps, 81, 81, 81))

    def test_products_multiplied_by_sums_of_several(self):
        steps = THREE[:9] + [("put", 5, 2, 4), ("add", 5, 3, 2), ("add", 4, -1, 5), ("add", 5, 1, 3), ("tell", 0, 5),
                             ("tell", 1, 4)]
        self.read(steps, 2, 2, 3)


class Refused(unittest.TestCase):
    def bad(self, step, program, left=2, right=3, many=2):
        self.assertEqual(step, refused(self, BadStep, read_program, program, left, right, many).step)

    def test_steps_that_cannot_be_done(self):
        for step in [("times", 4, 5, 1), ("times", 4, 0, 5), ("put", 4, 1, 5), ("add", 2, 1, 5), ("add", 5, 1, 2),
                     ("empty", 5), ("tell", 0, 5), ("tell", 2, 2), ("tell", -1, 2), ("left", 4, [(1, 2)]),
                     ("left", 4, [(1, -1)]), ("right", 4, [(1, 0), (0, 3)]), ("right", 4, [(1, -1)])]:
            self.bad(3, AHEAD + [step])
            self.bad(4, AHEAD + [("put", 9, 1, 2), step, step])

    def test_a_k_that_was_told_already(self):
        self.bad(5, AHEAD + [("put", 3, 1, 2), ("tell", 1, 2), ("tell", 1, 3)])

    def test_a_room_that_tell_or_empty_made_empty(self):
        for ahead in [("tell", 1, 2), ("empty", 2)]:
            for step in [("put", 3, 1, 2), ("add", 2, 1, 2), ("empty", 2), ("tell", 0, 2)]:
                self.bad(4, AHEAD + [ahead, step])

    def test_left_and_right_exchanged_at_times(self):
        self.bad(2, AHEAD[:2] + [("times", 2, 1, 0)])
        self.bad(2, AHEAD[:2] + [("times", 2, 0, 0)])
        self.bad(2, AHEAD[:2] + [("times", 2, 1, 1)])

    def test_times_of_rooms_with_products(self):
        for a, b in [(2, 1), (0, 2), (2, 2), (2, 0), (1, 2)]:
            self.bad(3, AHEAD + [("times", 3, a, b)])

    def test_put_add_and_tell_of_a_left_or_right_sum(self):
        for room in (0, 1):
            for step in [("put", 3, 1, room), ("put", room, 1, room), ("add", 2, 1, room), ("add", 2, 0, room),
                         ("tell", 0, room)]:
                self.bad(3, AHEAD + [step])

    def test_add_made_to_a_left_or_right_sum(self):
        for room in (0, 1):
            self.bad(3, AHEAD + [("add", room, 1, 2)])
            self.bad(3, AHEAD + [("add", room, 1, room)])
            self.bad(3, AHEAD + [("add", room, 1, 1 - room)])

    def test_running_takes_what_reading_refuses(self):
        program = AHEAD + [("times", 3, 2, 2), ("add", 0, 1, 2), ("tell", 0, 0), ("tell", 1, 1)]
        run_program(program, [1, 2], [3, 4, 5], 2)
        self.bad(3, program)

    def test_a_sum_that_comes_to_nothing_is_no_sum_of_products(self):
        self.bad(1, [("left", 0, [(0, 0)]), ("tell", 0, 0)])
        self.bad(1, [("right", 0, [(1, 1), (-1, 1)]), ("put", 1, 0, 0)])
        self.bad(2, [("left", 0, [(0, 0)]), ("right", 1, [(0, 0)]), ("times", 2, 1, 0)])

    def test_which_of_two_faults_comes_first(self):
        done, kind = ("put", 4, 1, 8), ("put", 4, 1, 0)
        self.bad(3, AHEAD + [done, kind])
        self.bad(3, AHEAD + [kind, done])
        self.bad(4, AHEAD + [("put", 4, 1, 2), kind, done])
        self.bad(4, AHEAD + [("put", 4, 1, 2), done, kind])
        # Both in one step.
        self.bad(3, AHEAD + [("add", 0, 1, 8)])
        self.bad(3, AHEAD + [("tell", 7, 0), done])

    def test_the_same_program_is_read_after_a_refusal(self):
        program = AHEAD + [("tell", 1, 2)]
        self.bad(3, program, many=1)
        self.assertEqual((2, 3, 2, [(1, 0, 2, 6), (1, 1, 2, -3)]), asked(self, read_program, program, 2, 3, 2))


if __name__ == "__main__":
    unittest.main()
