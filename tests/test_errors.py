"""The error classes [3]."""

import unittest

from samples import Checks
from waitwords import errors

NAMES = """
InvalidLetter InvalidKind InvalidRow NotSingle InvalidReading InvalidPaper InvalidPlace InvalidNumber
InvalidLinks InvalidTerm InvalidSizes InvalidThing InvalidSpan InvalidLot InvalidChain NotLeading NotFlat
InvalidWord UnknownWord InvalidBook InvalidTree InvalidName DoubleName UnknownName DoubleKind MissingKind
NothingToUndo Unreadable
""".split()


class Errors(Checks, unittest.TestCase):

    def test_no_other_class_stands_there(self):
        found = [name for name, thing in vars(errors).items() if isinstance(thing, type)]
        self.assertEqual(sorted(found), sorted(NAMES + ["WaitError"]))

    def test_each_stands_right_below_wait_error(self):
        self.assertEqual(errors.WaitError.__bases__, (ValueError,))
        for name in NAMES:
            made = getattr(errors, name)
            self.assertEqual(made.__bases__, (errors.WaitError,), name)
            self.assertEqual(made.__name__, name)
            self.assertEqual(made.__module__, "waitwords.errors")

    def test_each_keeps_the_value_itself(self):
        for name in NAMES + ["WaitError"]:
            made = getattr(errors, name)
            for value in ([1, [2]], ("plain", "a"), None, 0, "", {"a": 1}, made, object()):
                self.assertIs(made(value).value, value)
                self.assertIs(made(value=value).value, value)

    def test_each_wants_one_argument(self):
        for name in NAMES + ["WaitError"]:
            made = getattr(errors, name)
            self.assertRaises(TypeError, made)
            self.assertRaises(TypeError, made, 1, 2)
            self.assertRaises(TypeError, made, other=1)

    def test_each_is_raised_and_caught_as_a_value_error(self):
        for name in NAMES:
            value = [name]
            for wider in (getattr(errors, name), errors.WaitError, ValueError):
                with self.assertRaises(wider) as caught:
                    raise getattr(errors, name)(value)
                self.assertIs(caught.exception.value, value)


if __name__ == "__main__":
    unittest.main()
