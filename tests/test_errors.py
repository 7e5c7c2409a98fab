"""Point [2] and the heading "Errors": every class of errors."""

import unittest

from tests.samples import odd_values
from warmsteps import errors
from warmsteps.errors import WarmError

NAMES = {
    "BadPattern": "value", "BadCourses": "value", "BadCourse": "place", "NoPlace": "value", "BadShapes": "value",
    "BadHand": "value", "BadCell": "value", "BadShape": "value", "Inside": "hand", "Outside": "hand",
    "GoneWrong": "hand", "BadEvent": "number", "TooFar": "many", "BadState": "value", "NotRight": "value",
    "NotWrong": "value", "OtherPattern": "value", "BadProgram": "value", "BadPlacement": "number",
    "BadInputs": "number", "Ended": "hand", "NoSite": "value", "BadText": "line",
}


class ErrorsTest(unittest.TestCase):
    def test_the_first_one_is_a_value_error(self):
        self.assertTrue(issubclass(WarmError, ValueError))
        self.assertEqual(WarmError.__bases__, (ValueError,))

    def test_the_others_are_direct_subclasses(self):
        for name in NAMES:
            with self.subTest(name):
                self.assertEqual(getattr(errors, name).__bases__, (WarmError,))

    def test_each_is_defined_here(self):
        for name in ["WarmError", *NAMES]:
            with self.subTest(name):
                self.assertEqual(getattr(errors, name).__module__, "warmsteps.errors")

    def test_there_are_no_others(self):
        found = [name for name, value in vars(errors).items() if isinstance(value, type)]
        self.assertEqual(sorted(found), sorted(["WarmError", *NAMES]))

    def test_each_keeps_the_very_value_by_position(self):
        for name, attribute in NAMES.items():
            for value in odd_values():
                with self.subTest(name):
                    self.assertIs(getattr(getattr(errors, name)(value), attribute), value)

    def test_each_keeps_the_very_value_by_name(self):
        for name, attribute in NAMES.items():
            for value in odd_values():
                with self.subTest(name):
                    self.assertIs(getattr(getattr(errors, name)(**{attribute: value}), attribute), value)

    def test_each_asks_for_its_value_and_for_no_more(self):
        for name in NAMES:
            with self.subTest(name):
                self.assertRaises(TypeError, getattr(errors, name))
                self.assertRaises(TypeError, getattr(errors, name), 1, 2)

    def test_each_is_raised_and_caught_by_any_of_its_names(self):
        for name, attribute in NAMES.items():
            kind = getattr(errors, name)
            for caught in (kind, WarmError, ValueError):
                value = [name]
                with self.subTest(name), self.assertRaises(caught) as held:
                    raise kind(value)
                self.assertIs(getattr(held.exception, attribute), value)

    def test_a_value_that_changes_later_is_still_the_very_one(self):
        value = [1]
        error = errors.BadState(value)
        value.append(2)
        self.assertEqual(error.value, [1, 2])

    def test_no_value_is_written_out_in_a_message(self):
        for name in NAMES:
            with self.subTest(name):
                self.assertNotIn("xyxyxy", str(getattr(errors, name)("xyxyxy")))


if __name__ == "__main__":
    unittest.main()
