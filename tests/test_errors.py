"""Point 3: the errors and their fields."""

import unittest

from startbits import errors

WITH_A_STRING = ["InvalidNumber", "InvalidTick", "InvalidPhase", "InvalidLength", "InvalidLevel", "InvalidPlace",
                 "Impossible", "NothingToUndo", "InvalidCommand"]
WITH_A_FIELD = {"InvalidShape": "index", "InvalidReceiver": "index", "InvalidSignal": "index",
                "InvalidSending": "index", "InvalidText": "index", "InvalidLevels": "index",
                "InvalidLengths": "index", "InvalidFlow": "index", "InvalidTakes": "index",
                "TooLarge": "limit", "InvalidSyntax": "word"}


class ErrorTest(unittest.TestCase):
    def test_base_is_a_value_error(self):
        self.assertEqual(errors.LineError.__bases__, (ValueError,))
        self.assertEqual(str(errors.LineError("why")), "why")

    def test_each_error_is_a_direct_subclass(self):
        for name in WITH_A_STRING + list(WITH_A_FIELD):
            error = getattr(errors, name)
            self.assertEqual(error.__bases__, (errors.LineError,), name)
            self.assertEqual(error.__module__, "startbits.errors")

    def test_errors_without_fields_take_one_string(self):
        for name in WITH_A_STRING:
            self.assertEqual(str(getattr(errors, name)("some words")), "some words")

    def test_errors_store_their_field(self):
        for name, field in WITH_A_FIELD.items():
            error = getattr(errors, name)
            for value in (0, 7, 800, None):
                self.assertEqual(getattr(error(value), field), value)
                self.assertEqual(getattr(error(**{field: value}), field), value)
                self.assertEqual(vars(error(value)), {field: value})
                self.assertTrue(str(error(value)))

    def test_errors_need_their_field(self):
        for name in WITH_A_FIELD:
            with self.assertRaises(TypeError):
                getattr(errors, name)()
            with self.assertRaises(TypeError):
                getattr(errors, name)(1, 2)

    def test_there_are_no_other_errors(self):
        known = [error.__name__ for error in errors.LineError.__subclasses__()]
        self.assertEqual(sorted(known), sorted(WITH_A_STRING + list(WITH_A_FIELD)))


if __name__ == "__main__":
    unittest.main()
