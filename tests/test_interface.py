"""The interface: each name is there, in its file, with as many arguments as the document says."""

import importlib
import inspect
import unittest

NAMES = {
    "tasks": {"task_of": 4, "value_of": 3, "table_task": 3, "line_task": 2, "ring_task": 2},
    "schemes": {"is_scheme": 1, "applied": 3, "times_in": 1, "sums_in": 1, "task_by": 1, "does": 2, "fails_at": 2},
    "known": {"plain": 1, "by_pairs": 1, "seven": 0},
    "combining": {"task_within": 2, "within": 2, "tables_within": 4, "lines_within": 5, "beside": 5, "task_cut": 4,
                  "cut": 4, "tables_cut": 3, "wound": 3},
    "turning": {"task_turned": 1, "turned": 1, "task_mirrored": 1, "mirrored": 1, "tables_turned": 2,
                "tables_mirrored": 2},
    "running": {"run_program": 4},
    "reading": {"read_program": 4},
    "programs": {"program_of": 2, "room_for": 2, "best_order": 1},
    "moves": {"tidied": 1, "flips": 1, "flipped": 2},
    "search": {"walked": 2, "fewest_within": 2},
    "fields": {"does_over": 3, "pairs_over": 3, "span_of": 2},
    "least": {"least_over": 2, "least_paper": 3},
    "papers": {"shows_least": 4},
    "great": {"row_times": 4, "times_for": 3, "table_times": 4, "long_product": 5},
    "texts": {"scheme_text": 1, "scheme_from": 1},
    "desk": {"run": 1},
}


class Interface(unittest.TestCase):
    def test_names_and_arguments(self):
        for file, names in NAMES.items():
            module = importlib.import_module(f"fewtimes.{file}")
            for name, many in names.items():
                function = getattr(module, name)
                self.assertEqual(f"fewtimes.{file}", function.__module__)
                self.assertEqual(many, len(inspect.signature(function).parameters), name)

    def test_refusals_and_their_fields(self):
        errors = importlib.import_module("fewtimes.errors")
        self.assertEqual(3, errors.BadStep(3).step)
        self.assertEqual(4, errors.BadRow(4).row)
        self.assertTrue(issubclass(errors.NoFlip, errors.TimesError))


if __name__ == "__main__":
    unittest.main()
