"""Points 401 and 408: values, their parts, and when two are the same."""

import copy
import itertools
import unittest

from samepage.data.notation import notation
from samepage.data.values import is_value, parts_of, same
from tests.common import CHARACTERS
from tests.model_data import model_notation

# Values of each form, all of them different.
VALUES = [
    None, True, False, 0, 1, -1, 2, 10, -10, 10 ** 39, "", "a", "A", "0", "1", "null", "true", "[]", "{}", "\n", " ", "<", "\\",
    [], [None], [True], [1], [[]], [[], []], [[[]]], [""], [0, 1], [1, 0], [0], [{}], ["a", "b"], ["b", "a"], ["ab"],
    {}, {"a": 1}, {"a": True}, {"a": None}, {"a": []}, {"a": {}}, {"b": 1}, {"": 1}, {"a": 1, "b": 2}, {"a": 2, "b": 1},
    {"a": 1, "b": 2, "c": 3}, {"a": [1, {"b": False}]}, {"a": [1, {"b": 0}]}, {"a": [True, {"b": 0}]}, {"A": 1},
]


def in_lists(depth, value=None):
    """The value in so many lists."""
    for _ in range(depth):
        value = [value]
    return value


def in_maps(depth, value=None):
    for _ in range(depth):
        value = {"k": value}
    return value


def mixed(depth, value=None):
    for number in range(depth):
        value = [0, value] if number % 2 else {"a": "", "k": value}
    return value


class IsValueTest(unittest.TestCase):
    def yes(self, value):
        self.assertIs(is_value(value), True, repr(value)[:200])

    def no(self, value):
        self.assertIs(is_value(value), False, repr(value)[:200])

    def test_each_form(self):
        for value in VALUES:
            self.yes(value)
            self.yes([value])
            self.yes({"a": value})

    def test_digits(self):
        for most in (10 ** 40 - 1, 9 * 10 ** 39, 10 ** 39):
            self.yes(most)
            self.yes(-most)
            self.yes([most])
            self.yes({"a": -most})
        for more in (10 ** 40, 10 ** 40 + 1, 10 ** 41, 10 ** 400):
            self.no(more)
            self.no(-more)
            self.no([more])
            self.no({"a": [0, -more]})
        # Python itself does not write so many digits.
        self.assertIs(is_value(10 ** 5000), False)

    def test_depth(self):
        for nest in (in_lists, in_maps, mixed):
            for depth in (0, 1, 2, 11, 12):
                self.yes(nest(depth))
                self.yes(nest(depth, "x"))
            for depth in (13, 14, 40):
                self.no(nest(depth))
            self.yes(nest(11, []))
            self.yes(nest(11, {}))
            self.no(nest(12, []))
            self.no(nest(12, {}))
            self.yes([0, {"a": nest(10), "b": [nest(9)]}])
            self.no([0, {"a": nest(11)}, 1])

    def test_parts(self):
        self.yes([0] * 499)
        self.no([0] * 500)
        self.yes({str(key): 0 for key in range(499)})
        self.no({str(key): 0 for key in range(500)})
        self.yes([[0] * 248, [0] * 249])
        self.no([[0] * 249, [0] * 249])
        self.yes([{"a": [], "b": {}}] * 166)
        self.no([{"a": [], "b": {}}] * 166 + [{"a": []}])
        self.no([0] * 5000)
        self.no([[0] * 500] * 5000)

    def test_characters_of_texts_and_keys(self):
        for char in CHARACTERS:
            self.yes(char)
            self.yes({char: 0})
        self.yes("".join(CHARACTERS) * 50)
        self.yes({"".join(CHARACTERS) * 50: 0})
        for char in [chr(37)] + [chr(number) for number in [0, 9, 11, 13, 31, 127, 128, 160, 228, 955, 8232, 128512]]:
            for text in (char, "a" + char, char + "a", "abc" + char + "d"):
                self.no(text)
                self.no([text])
                self.no({"a": text})
                self.no({text: 0})
                self.no([{"a": 0, text: 0}])

    def test_keys_that_are_no_texts(self):
        for key in (0, 1, -1, True, False, None, (), ("a",), ("a", "b")):
            self.no({key: 0})
            self.no({"a": 0, key: 0})
            self.no([{"a": {key: "b"}}])

    def test_tuples(self):
        for value in ((), (1,), ("a", "b"), (None,), ([],)):
            self.no(value)
            self.no([value])
            self.no([0, [value]])
            self.no({"a": value})
            self.no({"a": [1, {"b": value}]})


class PartsOfTest(unittest.TestCase):
    def check(self, value, parts):
        self.assertEqual(parts_of(value), parts, repr(value)[:200])

    def test_examples(self):
        for value in (None, True, False, 0, -7, 10 ** 60, "", "abc", [], {}):
            self.check(value, 1)
        self.check([0], 2)
        self.check([[], []], 3)
        self.check({"a": 1}, 2)
        self.check({"a": 1, "b": [2, 3]}, 5)
        self.check([{"a": {"b": []}}, "c"], 5)
        self.check([0] * 499, 500)
        self.check([0] * 500, 501)
        self.check([[0] * 499] * 10, 5001)

    def test_depth(self):
        for depth in (1, 2, 12, 13, 40):
            self.check(in_lists(depth), depth + 1)
            self.check(in_maps(depth), depth + 1)
            self.check(mixed(depth), 2 * depth + 1)

    def test_every_part_of_small_values(self):
        for value in VALUES:
            nested = [part for part in VALUES if type(part) in (list, dict)]
            self.check([value, value], 1 + 2 * parts_of(value))
            for other in nested:
                self.check({"x": value, "y": [other]}, 2 + parts_of(value) + parts_of(other))


class SameTest(unittest.TestCase):
    def yes(self, one, two):
        self.assertIs(same(one, two), True, (one, two))
        self.assertIs(same(two, one), True, (one, two))

    def no(self, one, two):
        self.assertIs(same(one, two), False, (one, two))
        self.assertIs(same(two, one), False, (one, two))

    def test_each_value_is_the_same_as_itself_alone(self):
        for at, one in enumerate(VALUES):
            self.yes(one, copy.deepcopy(one))
            for two in VALUES[:at]:
                self.no(one, two)
                self.no([one], [two])
                self.no([0, one], [0, two])
                self.no({"a": one}, {"a": two})
                self.no({"a": [{"b": one}], "c": 0}, {"a": [{"b": two}], "c": 0})

    def test_truths_and_numbers(self):
        self.no(True, 1)
        self.no(False, 0)
        self.no([True], [1])
        self.no([0, [False]], [0, [0]])
        self.no({"a": True}, {"a": 1})
        self.yes(True, True)
        self.yes(1, 1)

    def test_empty_ones(self):
        for one, two in itertools.combinations([None, False, 0, "", [], {}], 2):
            self.no(one, two)

    def test_lists(self):
        self.no([1, 2], [2, 1])
        self.no([1, 2], [1, 2, 3])
        self.no([1, 2, 3], [1, 2, 4])
        self.yes([1, [2, "3"]], [1, [2, "3"]])

    def test_maps(self):
        self.yes({"a": 1, "b": 2}, {"b": 2, "a": 1})
        self.yes({"c": [], "b": {"y": 1, "x": 2}, "a": 0}, {"a": 0, "b": {"x": 2, "y": 1}, "c": []})
        self.no({"a": 1, "b": 2}, {"a": 1, "c": 2})
        self.no({"a": 1, "b": 2}, {"a": 1})
        self.no({"a": 1, "b": 2}, {"a": 1, "b": 3})
        self.no({"a": 1}, [["a", 1]])

    def test_exactly_if_the_notations_are_equal(self):
        pairs = [{"x": one, "y": two} for one in VALUES[:20:3] for two in VALUES[::5]]
        values = VALUES + pairs + [dict(reversed(list(pair.items()))) for pair in pairs[::3]]
        for one in values:
            for two in values:
                self.assertIs(same(one, two), notation(one) == notation(two), (one, two))
                self.assertIs(same(one, two), model_notation(one) == model_notation(two), (one, two))

    def test_deep_values(self):
        for nest in (in_lists, in_maps, mixed):
            self.yes(nest(12, True), nest(12, True))
            self.no(nest(12, True), nest(12, 1))
            self.no(nest(12, True), nest(11, True))


class AnswersTest(unittest.TestCase):
    def test_arguments_stay(self):
        value = [{"b": [1, {"d": 0, "c": "x"}], "a": None}, []]
        kept = copy.deepcopy(value)
        is_value(value)
        parts_of(value)
        same(value, [value])
        same(value, kept)
        self.assertEqual(value, kept)
        self.assertEqual(list(value[0]), ["b", "a"])


if __name__ == "__main__":
    unittest.main()
