"""Point 4: the error classes and their attribute."""

import inspect
import unittest

from samepage import errors
from samepage.errors import SamepageError

NAMES = [
    "Impossible", "MissingText", "BadDirective", "TakenName", "Misplaced", "Unclosed", "TooDeep", "BadShape",
    "UnknownPart", "UnknownName", "WrongKind", "FarList", "ListTwice", "TooLarge", "BadNotation", "Misfit",
    "NotReached", "NotAdmissible", "NoNeed", "Refused", "TooManyTruths",
]
CLASSES = [getattr(errors, name) for name in NAMES]


class ErrorsTest(unittest.TestCase):
    def test_there_are_21_classes_and_their_base(self):
        defined = [name for name, value in vars(errors).items() if inspect.isclass(value)]
        self.assertEqual(len(NAMES), 21)
        self.assertEqual(sorted(defined), sorted(NAMES + ["SamepageError"]))

    def test_the_base_is_directly_below_value_error(self):
        self.assertEqual(SamepageError.__bases__, (ValueError,))

    def test_each_class_is_directly_below_the_base(self):
        for error in CLASSES:
            with self.subTest(error=error.__name__):
                self.assertEqual(error.__bases__, (SamepageError,))
                self.assertTrue(issubclass(error, ValueError))

    def test_no_class_is_one_of_the_others(self):
        for one in CLASSES:
            for other in CLASSES:
                if one is not other:
                    self.assertFalse(issubclass(one, other), (one, other))

    def test_names_are_the_names_of_the_classes(self):
        for name, error in zip(NAMES, CLASSES):
            self.assertEqual(error.__name__, name)
            self.assertEqual(error.__module__, "samepage.errors")

    def test_the_integer_is_kept(self):
        for error in CLASSES + [SamepageError]:
            for at in (0, 1, 7, -1, -20000, 10 ** 60, -10 ** 60):
                with self.subTest(error=error.__name__, at=at):
                    self.assertEqual(error(at).at, at)
                    self.assertIs(type(error(at).at), int)

    def test_each_error_has_its_own_integer(self):
        first = errors.Impossible(3)
        second = errors.Impossible(4)
        self.assertEqual((first.at, second.at), (3, 4))

    def test_at_is_the_one_attribute(self):
        for error in CLASSES + [SamepageError]:
            self.assertEqual(vars(error(5)), {"at": 5})

    def test_a_raised_error_is_caught_as_each_of_its_classes(self):
        for error in CLASSES:
            for kind in (error, SamepageError, ValueError):
                with self.assertRaises(kind) as caught:
                    raise error(12)
                self.assertEqual(caught.exception.at, 12)

    def test_a_raised_error_is_not_caught_as_another_one(self):
        with self.assertRaises(errors.TooDeep):
            try:
                raise errors.TooDeep(1)
            except errors.TooLarge:
                self.fail("caught as another error")

    def test_one_integer_is_needed(self):
        for error in CLASSES + [SamepageError]:
            self.assertRaises(TypeError, error)
            self.assertRaises(TypeError, error, 1, 2)


if __name__ == "__main__":
    unittest.main()
