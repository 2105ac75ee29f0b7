"""Points 302 to 304: names, and shapes read and written."""

import copy
import itertools
import random
import unittest

from samepage.errors import BadShape, SamepageError, TakenName
from samepage.templates.shapes import depth_of, field_kind, is_name, parse_shape, write_shape
from tests.common import CHARACTERS
from tests.model_templates import bad_shape, shape_of
from tests.templates import random_shape, spoilt

SMALL = "abcdefghijklmnopqrstuvwxyz"
WORDS = ["data", "else", "end", "for", "if", "in", "part", "shape", "slot", "text", "truth", "use"]
KINDS = ["text", "truth", "data"]


def nested(depth, inside="", name="a"):
    """The text of a shape that is nested so deep, with this innermost shape."""
    return (name + " [") * (depth - 1) + inside + "]" * (depth - 1)


class NamesTest(unittest.TestCase):
    def yes(self, text):
        self.assertIs(is_name(text), True, text)

    def no(self, text):
        self.assertIs(is_name(text), False, text)

    def test_lengths(self):
        self.no("")
        for char in SMALL:
            self.yes(char)
            for size in range(1, 17):
                self.yes(char * size)
            for size in (17, 18, 32, 400):
                self.no(char * size)
        self.yes("abcdefghijklmnop")
        self.no("abcdefghijklmnopq")

    def test_words(self):
        for word in WORDS:
            self.no(word)
            for char in SMALL:
                self.yes(word + char)
                self.yes(char + word)
            for at in range(len(word)):
                shorter = word[:at] + word[at + 1:]
                self.assertIs(is_name(shorter), shorter not in WORDS, shorter)
            self.no(word.upper())
            self.no(word.title())
            self.no(word + " ")
            self.yes(word + word)

    def test_other_characters(self):
        for char in CHARACTERS:
            if char not in SMALL:
                for text in (char, char + "abc", "a" + char + "bc", "ab" + char + "c", "abc" + char, "z" * 15 + char):
                    self.no(text)
        self.no("row.title")
        self.no("a b")
        self.no("A")
        self.no("a1")

    def test_every_short_text(self):
        for count in range(5):
            for row in itertools.product("infse1", repeat=count):
                text = "".join(row)
                self.assertIs(is_name(text), text != "" and "1" not in text and text not in WORDS, text)


class ParseShapeTest(unittest.TestCase):
    def check(self, text, shape):
        self.assertEqual(parse_shape(text), shape, text)
        self.assertEqual(write_shape(shape), text)

    def test_examples(self):
        self.check("title text, rows [name text, paid truth]", [
            ("title", "text"), ("rows", [("name", "text"), ("paid", "truth")])])
        self.check("", [])
        self.check("a text", [("a", "text")])
        self.check("a truth", [("a", "truth")])
        self.check("a data", [("a", "data")])
        self.check("b text, a truth, c data", [("b", "text"), ("a", "truth"), ("c", "data")])

    def test_empty_shapes_within_lists(self):
        self.check("a []", [("a", [])])
        self.check("a [], b []", [("a", []), ("b", [])])
        self.check("a [b []], c text", [("a", [("b", [])]), ("c", "text")])
        self.check("a [b [], c truth]", [("a", [("b", []), ("c", "truth")])])

    def test_depths(self):
        for inside, fields in (("", []), ("b text", [("b", "text")]), ("b data, c truth", [("b", "data"), ("c", "truth")])):
            shape = fields
            for depth in range(1, 7):
                text = nested(depth, inside)
                self.check(text, shape)
                self.assertEqual(depth_of(shape), depth)
                shape = [("a", shape)]

    def test_the_same_name_in_different_shapes(self):
        self.check("a [a [a text]]", [("a", [("a", [("a", "text")])])])
        self.check("a [c text], b [c text]", [("a", [("c", "text")]), ("b", [("c", "text")])])

    def test_names_that_begin_with_words(self):
        for word in WORDS:
            self.check(word + "x text, x" + word + " data", [(word + "x", "text"), ("x" + word, "data")])

    def test_many_fields(self):
        names = [one + two for one in SMALL for two in "abc"]
        self.check(", ".join(name + " text" for name in names), [(name, "text") for name in names])

    def test_random_shapes(self):
        rng = random.Random(1)
        for _ in range(1000):
            shape = random_shape(rng)
            text = write_shape(shape)
            self.check(text, shape)
            self.assertEqual(shape_of(text), shape)

    def test_kinds_of_the_answer(self):
        shape = parse_shape("a text, b [c [], d data]")
        self.assertIs(type(shape), list)
        self.assertTrue(all(type(field) is tuple for field in shape))
        self.assertIs(type(shape[1][1]), list)
        self.assertTrue(all(type(field) is tuple for field in shape[1][1]))
        self.assertIs(type(shape[1][1][0][1]), list)


class BadShapeTest(unittest.TestCase):
    def check(self, text, at):
        with self.assertRaises(BadShape) as caught:
            parse_shape(text)
        self.assertEqual(caught.exception.at, at, text)
        self.assertIsInstance(caught.exception, SamepageError)

    def test_names(self):
        self.check("a", 1)
        self.check("1", 0)
        self.check("A text", 0)
        self.check("aB text", 1)
        self.check("a1 text", 1)
        self.check("a.b text", 1)
        self.check("z" * 16, 16)
        self.check("z" * 17 + " text", 16)
        self.check("z" * 16 + "1 text", 16)
        self.check("a text, " + "z" * 17, 24)

    def test_words_that_are_no_names(self):
        for word in WORDS:
            self.check(word, len(word))
            self.check(word + " text", len(word))
            self.check("a text, " + word + " text", 8 + len(word))
            self.check("a [" + word + " text]", 3 + len(word))
            self.check(word + "s", len(word) + 1)

    def test_spaces(self):
        self.check(" ", 0)
        self.check(" a text", 0)
        self.check("a  text", 2)
        self.check("a text ", 6)
        self.check("a text  , b text", 6)
        self.check("a text ,b text", 6)
        self.check("a text,b text", 7)
        self.check("a text,  b text", 8)
        self.check("a text,\nb text", 7)
        self.check("a\ntext", 1)
        self.check("a[]", 1)
        self.check("a [ ]", 3)
        self.check("a [ b text]", 3)
        self.check("a [b text ]", 9)
        self.check("a [b text] ", 10)

    def test_commas(self):
        self.check(",", 0)
        self.check(", a text", 0)
        self.check("a text,", 7)
        self.check("a text, ", 8)
        self.check("a text,, b text", 7)
        self.check("a text, , b text", 8)
        self.check("a, text", 1)
        self.check("a [,]", 3)
        self.check("a [b text,]", 10)
        self.check("a [b text, ]", 11)
        self.check("a [], ", 6)
        self.check("a text b text", 6)

    def test_kinds(self):
        self.check("a ", 2)
        self.check("a t", 3)
        self.check("a x", 2)
        self.check("a texts", 6)
        self.check("a tex", 5)
        self.check("a tuxt", 3)
        self.check("a trext", 4)
        self.check("a truh", 5)
        self.check("a truths", 7)
        self.check("a dat", 5)
        self.check("a dato", 5)
        self.check("a datas", 6)
        self.check("a Text", 2)
        self.check("a text truth", 6)
        self.check("a part", 2)

    def test_brackets(self):
        self.check("[", 0)
        self.check("]", 0)
        self.check("[]", 0)
        self.check("a [", 3)
        self.check("a [[", 3)
        self.check("a [b text", 9)
        self.check("a [b text]]", 10)
        self.check("a text]", 6)
        self.check("a []]", 4)
        self.check("a [b [c text]", 13)
        self.check("a [b text] c text", 10)
        self.check("a []b text", 4)
        self.check("a (b text)", 2)

    def test_depth(self):
        self.check(nested(7), 17)
        self.check(nested(7, "b text"), 17)
        self.check(nested(8), 17)
        self.check(nested(7, "", "z" * 16), 6 * 18 - 1)
        self.check(nested(6, "b text, c [d text]"), 15 + 10)
        self.check("b text, " + nested(7), 8 + 17)

    def test_something_behind_a_whole_shape(self):
        for char in CHARACTERS:
            if char != ",":
                self.check("a text" + char, 6)
                self.check("a [b truth]" + char, 11)

    def test_each_cut_and_each_other_character(self):
        for text in ("title text, rows [name text, paid truth]", "a [b [], c [d data]], e truth", nested(6, "b text")):
            for at in range(len(text) + 1):
                self.against_search(text[:at])
                for char in " ,[]atz1\n":
                    self.against_search(text[:at] + char + text[at:])
                    self.against_search(text[:at] + char + text[at + 1:])
                self.against_search(text[:at] + text[at + 1:])

    def test_every_short_row_of_pieces(self):
        for count in range(6):
            for row in itertools.product(["a", " ", ", ", "text", "[", "]"], repeat=count):
                self.against_search("".join(row))

    def test_random_texts(self):
        rng = random.Random(2)
        for _ in range(700):
            text = write_shape(random_shape(rng, rng.choice([1, 2, 3, 4])))
            if len(text) < 120:
                self.against_search(spoilt(rng, text, " ,[]txruA1dz"))

    def against_search(self, text):
        at = bad_shape(text)
        if at is not None:
            self.check(text, at)
            return
        try:
            self.assertEqual(parse_shape(text), shape_of(text), text)
        except TakenName as error:
            self.assertEqual(error.at, 0)


class TakenNameTest(unittest.TestCase):
    def check(self, text):
        with self.assertRaises(TakenName) as caught:
            parse_shape(text)
        self.assertEqual(caught.exception.at, 0, text)

    def test_in_the_outermost_shape(self):
        self.check("a text, a text")
        self.check("a text, a []")
        self.check("a text, b truth, c data, b data")
        self.check("a [], a [b text]")

    def test_in_a_nested_shape(self):
        self.check("a [b text, b text]")
        self.check("a text, c [d [b text, e [], b truth]], f text")
        self.check(nested(6, "b text, b text"))
        self.check("a text, c [a text], d [a text, a data]")

    def test_only_if_nothing_else_is_wrong(self):
        for text, at in (
            ("a text, a text,", 15), ("a text, a tex", 13), ("a [b text, b text", 17), ("a text, a text, data text", 20),
            ("a text, a text]", 14), ("a text, a text, " + nested(7), 33),
        ):
            with self.assertRaises(BadShape) as caught:
                parse_shape(text)
            self.assertEqual(caught.exception.at, at, text)


class FieldsTest(unittest.TestCase):
    def test_field_kind(self):
        shape = parse_shape("a text, b truth, c data, d [], e [a truth, f [g text]]")
        self.assertEqual(field_kind(shape, "a"), "text")
        self.assertEqual(field_kind(shape, "b"), "truth")
        self.assertEqual(field_kind(shape, "c"), "data")
        self.assertEqual(field_kind(shape, "d"), [])
        self.assertEqual(field_kind(shape, "e"), [("a", "truth"), ("f", [("g", "text")])])
        for name in ("f", "g", "aa", "z", "", "text", "A", "a "):
            self.assertIsNone(field_kind(shape, name))
        self.assertIsNone(field_kind([], "a"))

    def test_depth_of(self):
        self.assertEqual(depth_of([]), 1)
        self.assertEqual(depth_of([("a", "text"), ("b", "data")]), 1)
        self.assertEqual(depth_of([("a", [])]), 2)
        self.assertEqual(depth_of([("a", [("b", [])]), ("c", []), ("d", "text")]), 3)
        self.assertEqual(depth_of([("c", []), ("a", [("b", [("b", "text")])])]), 3)
        for depth in range(1, 7):
            self.assertEqual(depth_of(parse_shape(nested(depth))), depth)


class AnswersTest(unittest.TestCase):
    def test_shapes_are_new(self):
        text = "a [b [c text]], d []"
        shape = parse_shape(text)
        kept = copy.deepcopy(shape)
        shape[0][1][0][1].append("changed")
        shape[0][1].append("changed")
        shape[1][1].append("changed")
        self.assertEqual(parse_shape(text), kept)
        parse_shape("").append("changed")
        self.assertEqual(parse_shape(""), [])

    def test_the_kind_of_a_field_is_new(self):
        shape = [("a", [("b", [("c", "text")])]), ("d", [])]
        kept = copy.deepcopy(shape)
        kind = field_kind(shape, "a")
        kind[0][1].append("changed")
        kind.append("changed")
        field_kind(shape, "d").append("changed")
        self.assertEqual(shape, kept)
        self.assertEqual(field_kind(shape, "a"), kept[0][1])

    def test_arguments_stay(self):
        shape = parse_shape("a [b [], c text], d truth")
        kept = copy.deepcopy(shape)
        write_shape(shape)
        depth_of(shape)
        self.assertEqual(shape, kept)

    def test_kinds_of_answers(self):
        for text in ("", "a", "data"):
            self.assertIs(type(is_name(text)), bool)
        self.assertIs(type(write_shape([])), str)


if __name__ == "__main__":
    unittest.main()
