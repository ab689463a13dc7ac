"""[2], the interface: the refusals' classes, and how they stand under one another."""

import unittest

from fewtimes.errors import BadRow, BadStep, NoFlip, TimesError


class Errors(unittest.TestCase):
    def test_times_error_stands_straight_under_value_error(self):
        self.assertEqual((ValueError,), TimesError.__bases__)

    def test_each_refusal_stands_straight_under_times_error(self):
        for refusal in (BadStep, NoFlip, BadRow):
            self.assertEqual((TimesError,), refusal.__bases__)

    def test_the_fields_are_set_when_made(self):
        self.assertEqual(7, BadStep(7).step)
        self.assertEqual(0, BadRow(0).row)
        self.assertEqual(0, BadStep(0).step)
        self.assertEqual(10 ** 30, BadRow(10 ** 30).row)

    def test_each_can_be_raised_and_taken(self):
        for made in (BadStep(3), NoFlip(), BadRow(4)):
            with self.assertRaises(TimesError):
                raise made
            with self.assertRaises(ValueError):
                raise made

    def test_none_is_taken_by_another_ones_name(self):
        for made, others in ((BadStep(3), (NoFlip, BadRow)),
                             (NoFlip(), (BadStep, BadRow)),
                             (BadRow(4), (BadStep, NoFlip))):
            self.assertNotIsInstance(made, others)


if __name__ == "__main__":
    unittest.main()
