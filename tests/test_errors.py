"""Point 1 and the interface's doingbook/errors.py."""

import unittest

from doingbook import errors

PLAIN = (
    "NoFraction NoCount NoTie NoBow NoName NoSets NoWorld NoValue NoShare NoRoad NoRule BadPaper NoNest NoDoor"
    " NoThinning NoAnswer NoQuestion NoFormula"
).split()
WITH_PLACE = ["BadStep", "NoText"]


class ErrorsTest(unittest.TestCase):
    def test_all_classes_are_there_and_no_other(self):
        there = [name for name, value in vars(errors).items() if isinstance(value, type)]
        self.assertEqual(sorted(there), sorted(PLAIN + WITH_PLACE + ["DoingError"]))

    def test_doing_error_stands_under_value_error(self):
        self.assertTrue(issubclass(errors.DoingError, ValueError))
        self.assertIsNot(errors.DoingError, ValueError)

    def test_each_refusal_stands_under_doing_error(self):
        for name in PLAIN + WITH_PLACE:
            with self.subTest(name):
                self.assertTrue(issubclass(getattr(errors, name), errors.DoingError))
                self.assertEqual(getattr(errors, name).__name__, name)

    def test_no_refusal_stands_under_another_one(self):
        for name in PLAIN + WITH_PLACE:
            for other in PLAIN + WITH_PLACE:
                if name != other:
                    with self.subTest(name, other=other):
                        self.assertFalse(issubclass(getattr(errors, name), getattr(errors, other)))

    def test_each_can_be_raised_and_taken_as_a_doing_error(self):
        for name in PLAIN:
            with self.subTest(name), self.assertRaises(errors.DoingError):
                raise getattr(errors, name)("words")

    def test_the_field_at(self):
        for name in WITH_PLACE:
            for at in (0, 1, 1999):
                with self.subTest(name, at=at):
                    with self.assertRaises(errors.DoingError) as caught:
                        raise getattr(errors, name)(at)
                    self.assertEqual(caught.exception.at, at)


if __name__ == "__main__":
    unittest.main()
