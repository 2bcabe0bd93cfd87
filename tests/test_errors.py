"""Promise 3: the error classes."""

import unittest

from everyspan import errors

NAMES = ["InvalidDays", "InvalidRule", "InvalidLength", "InvalidNumber", "InvalidKnown", "InvalidDay", "NoRows",
         "Contradiction", "TooMany", "NothingToUndo", "Unreadable"]


class ErrorsTest(unittest.TestCase):

    def test_bases(self):
        self.assertEqual(errors.SpanError.__bases__, (ValueError,))
        for name in NAMES:
            self.assertEqual(getattr(errors, name).__bases__, (errors.SpanError,), name)

    def test_no_class_is_another(self):
        for name in NAMES:
            for other in NAMES:
                self.assertEqual(issubclass(getattr(errors, name), getattr(errors, other)), name == other)

    def test_all_classes_are_listed(self):
        found = [name for name, thing in vars(errors).items() if isinstance(thing, type)]
        self.assertEqual(sorted(found), sorted(NAMES + ["SpanError"]))
        for name in found:
            self.assertEqual(getattr(errors, name).__module__, "everyspan.errors")

    def test_value_is_the_thing_itself(self):
        for name in NAMES + ["SpanError"]:
            for thing in (0, -7, 10 ** 5000, (1, 2), [1, [2]], "no % {text}", "", None, object()):
                for error in (getattr(errors, name)(thing), getattr(errors, name)(value=thing)):
                    self.assertIs(error.value, thing)
                    self.assertIsInstance(error, errors.SpanError)
                    self.assertIsInstance(error, ValueError)

    def test_one_argument(self):
        for name in NAMES + ["SpanError"]:
            with self.assertRaises(TypeError):
                getattr(errors, name)()
            with self.assertRaises(TypeError):
                getattr(errors, name)(1, 2)

    def test_raised_and_caught(self):
        for name in NAMES:
            with self.assertRaises(errors.SpanError) as caught:
                raise getattr(errors, name)((3, 4))
            self.assertEqual(caught.exception.value, (3, 4))


if __name__ == "__main__":
    unittest.main()
