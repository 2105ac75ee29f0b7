"""Points 402 and 403: notations, written and read."""

import copy
import random
import unittest

from samepage.data.notation import notation, read_notation
from samepage.errors import BadNotation, SamepageError
from tests.common import CHARACTERS
from tests.model_data import bad_notation, model_notation, short_texts
from tests.templates import spoilt
from tests.test_values import VALUES, in_lists, in_maps, mixed

DIGITS = "0123456789"
BACKSLASH = "\\"


def random_value(rng, depth=0):
    way = rng.random()
    if way < 0.4 or depth > 4:
        return rng.choice([None, True, False, 0, -1, 12, 907, "", "a", "<", "a\"\\\n<b", -10 ** 45])
    if way < 0.7:
        return [random_value(rng, depth + 1) for _ in range(rng.randrange(4))]
    keys = ["a", "b", "<", "\n", "", "\\", "ab", "\""]
    return {rng.choice(keys): random_value(rng, depth + 1) for _ in range(rng.randrange(4))}


class NotationTest(unittest.TestCase):
    def check(self, value, text):
        self.assertEqual(notation(value), text)
        found = read_notation(text)
        self.assertEqual(found, value, text)
        self.assertEqual(notation(found), text)

    def test_words(self):
        self.check(None, "null")
        self.check(True, "true")
        self.check(False, "false")
        self.assertIs(read_notation("true"), True)
        self.assertIs(read_notation("false"), False)
        self.assertIsNone(read_notation("null"))

    def test_integers(self):
        for number in list(range(-120, 121)) + [10 ** 39, -10 ** 39, 10 ** 40 - 1, 12345678901234567890]:
            self.check(number, str(number))
            self.assertIs(type(read_notation(str(number))), int)
        self.check([0, 1, -1], "[0,1,-1]")

    def test_texts(self):
        self.check("", "\"\"")
        self.check("a b", "\"a b\"")
        self.check("\"", "\"" + BACKSLASH + "\"\"")
        self.check(BACKSLASH, "\"" + BACKSLASH * 2 + "\"")
        self.check("\n", "\"" + BACKSLASH + "n\"")
        self.check("<", "\"" + BACKSLASH + "u003c\"")
        self.check(BACKSLASH + "n", "\"" + BACKSLASH * 2 + "n\"")
        self.check(BACKSLASH + "u003c", "\"" + BACKSLASH * 2 + "u003c\"")
        self.check(BACKSLASH + "\"", "\"" + BACKSLASH * 3 + "\"\"")
        for char in CHARACTERS:
            if char not in "\"\\\n<":
                self.check(char, "\"" + char + "\"")
                self.check("a" + char + char, "\"a" + char + char + "\"")

    def test_lists(self):
        self.check([], "[]")
        self.check([[]], "[[]]")
        self.check([None], "[null]")
        self.check([1, "a", [True, []], {}], "[1,\"a\",[true,[]],{}]")

    def test_maps(self):
        self.check({}, "{}")
        self.check({"a": 1}, "{\"a\":1}")
        self.check({"": {}}, "{\"\":{}}")
        self.check({"b": [1, None], "a": "<x>"}, "{\"a\":\"" + BACKSLASH + "u003cx>\",\"b\":[1,null]}")
        self.check({"\n<\"" + BACKSLASH: 0}, "{\"" + BACKSLASH + "n" + BACKSLASH + "u003c" + BACKSLASH + "\"" + BACKSLASH * 2 + "\":0}")

    def test_the_order_of_keys(self):
        self.check({"b": 2, "a": 1, "c": 3}, "{\"a\":1,\"b\":2,\"c\":3}")
        self.check({"ab": 1, "a": 2, "": 3, "b": 4}, "{\"\":3,\"a\":2,\"ab\":1,\"b\":4}")
        self.check({"a": 1, "B": 2, "1": 3, "~": 4, " ": 5}, "{\" \":5,\"1\":3,\"B\":2,\"a\":1,\"~\":4}")
        self.check({"10": 0, "9": 1}, "{\"10\":0,\"9\":1}")
        # By their characters, not as they are written: a newline comes first, `<` before `=`, a backslash behind `Z`.
        keys = "{\"" + BACKSLASH + "n\":1,\" \":2,\"" + BACKSLASH + "\"\":3,\"" + BACKSLASH + "u003c\":4,\"=\":5,\"Z\":6,\""
        self.check({"a": 8, "\\": 7, "Z": 6, "=": 5, "<": 4, "\"": 3, " ": 2, "\n": 1}, keys + BACKSLASH * 2 + "\":7,\"a\":8}")
        every = sorted(CHARACTERS)
        self.assertEqual(list(read_notation(notation({char: 0 for char in reversed(every)}))), every)

    def test_values_of_each_form(self):
        for value in VALUES:
            self.check(value, model_notation(value))
            self.check([value, value], "[" + notation(value) + "," + notation(value) + "]")
            self.check({"a": value, "b": value}, "{\"a\":" + notation(value) + ",\"b\":" + notation(value) + "}")

    def test_random_values(self):
        rng = random.Random(6)
        for _ in range(2000):
            value = random_value(rng)
            self.check(value, model_notation(value))

    def test_what_a_notation_never_is(self):
        for value in VALUES + [" ", "/", ">", "<b>", "</script>", "a\nb", {"<": "\n"}]:
            text = notation(value)
            self.assertNotIn("<", text)
            self.assertNotIn("\n", text)
            self.assertNotIn(text[:1], ["", " ", "/", ">"])

    def test_long_ones(self):
        text = "".join(CHARACTERS) * 50
        self.check(text, model_notation(text))
        self.check([0] * 499, "[" + ",".join("0" * 499) + "]")


class ReadCase(unittest.TestCase):
    def fails(self, text, at, most=12):
        with self.assertRaises(BadNotation) as caught:
            read_notation(text, most)
        self.assertEqual(caught.exception.at, at, (text, most))
        self.assertIsInstance(caught.exception, SamepageError)

    def against_search(self, text, most=12):
        at = bad_notation(text, most)
        if at is not None:
            self.fails(text, at, most)
        else:
            self.assertEqual(model_notation(read_notation(text, most)), text)


class ReadTest(ReadCase):
    def test_the_example(self):
        self.fails("[1,02]", 4)

    def test_each_beginning(self):
        self.fails("", 0)
        for char in CHARACTERS:
            if char in DIGITS:
                self.assertEqual(read_notation(char), int(char))
            else:
                self.fails(char, 1 if char in "\"[{-ntf" else 0)
            self.against_search(char + "1")
            self.against_search("[" + char)
            self.against_search("[1," + char)
            self.against_search("{" + char)
            self.against_search("{\"a\":" + char)
            self.against_search("{\"a\"" + char)
            self.against_search("{\"a\":1" + char)

    def test_words_cut_off_or_spoilt(self):
        for word in ("null", "true", "false"):
            for at in range(len(word)):
                self.fails(word[:at], at)
                self.fails("[" + word[:at], at + 1)
                self.fails("{\"a\":" + word[:at] + "}", at + 5)
                for char in CHARACTERS:
                    if char != word[at] and (at > 0 or char not in DIGITS + "\"[{-ntf"):
                        self.fails(word[:at] + char, at)
                        self.fails(word[:at] + char + word[at + 1:], at)
            for char in CHARACTERS:
                self.fails(word + char, len(word))
            self.fails(word.upper(), 0)
            self.fails(word.title(), 0)

    def test_numbers(self):
        self.fails("-", 1)
        self.fails("-0", 1)
        self.fails("-01", 1)
        self.fails("--1", 1)
        self.fails("+1", 0)
        self.fails("00", 1)
        self.fails("01", 1)
        self.fails("0x1", 1)
        self.fails("1.0", 1)
        self.fails("1e5", 1)
        self.fails("1_0", 1)
        self.fails("1 0", 1)
        self.fails("12-", 2)
        self.fails("-1-", 2)
        self.fails("[-]", 2)
        self.fails("[-0]", 2)
        self.fails("[0", 2)
        self.fails("[10,00]", 5)
        self.fails(".5", 0)
        self.fails(" 1", 0)
        self.fails("1 ", 1)
        for char in CHARACTERS:
            if char not in DIGITS:
                self.fails("12" + char, 2)
                self.fails("-" + char, 1)
            self.fails("0" + char, 1)

    def test_integers_of_many_digits(self):
        for digits in (40, 41, 100, 1000, 1990):
            for sign in ("", "-"):
                text = sign + "7" * digits
                self.assertEqual(read_notation(text), int(text))
                self.assertEqual(read_notation("[" + text + "]"), [int(text)])

    def test_characters_that_must_be_written_with_a_backslash(self):
        for at, text in ((1, "\"<\""), (1, "\"\n\""), (2, "\"a\n"), (3, "\"ab<"), (2, "{\"<\":0}"), (3, "{\"a\n\":0}")):
            self.fails(text, at)
        self.fails("\"" + BACKSLASH + "\"", 3)
        self.fails("\"\"\"", 2)

    def test_backslashes(self):
        for char in CHARACTERS:
            text = "\"a" + BACKSLASH + char
            if char in "\"\\n":
                self.assertEqual(read_notation(text + "b\""), "a" + {"n": "\n"}.get(char, char) + "b")
                self.fails(text, 4)
            elif char == "u":
                self.fails(text, 4)
                self.fails(text + "\"", 4)
            else:
                self.fails(text, 3)
                self.fails(text + "\"", 3)
        self.fails("\"" + BACKSLASH, 2)

    def test_the_number_of_a_character(self):
        sign = BACKSLASH + "u003c"
        self.assertEqual(read_notation("\"" + sign + sign + "b\""), "<<b")
        for at in range(1, len(sign) + 1):
            self.fails("\"" + sign[:at], at + 1)
            self.fails("{\"" + sign[:at], at + 2)
            for char in CHARACTERS:
                if at >= 2 and at < len(sign) and char != sign[at]:
                    self.fails("\"" + sign[:at] + char + sign[at + 1:] + "\"", at + 1)
        self.fails("\"" + BACKSLASH + "u003C\"", 6)
        self.fails("\"" + BACKSLASH + "u003e\"", 6)
        self.fails("\"" + BACKSLASH + "u0041\"", 5)

    def test_texts_that_do_not_end(self):
        for text in ("\"", "\"a", "\"a b", "[\"a", "{\"", "{\"a", "{\"a\":\""):
            self.fails(text, len(text))

    def test_other_characters(self):
        for char in (chr(37), "\t", chr(228), chr(0)):
            self.fails("\"a" + char + "\"", 2)
            self.fails(char, 0)

    def test_commas_and_colons(self):
        for text, at in (
            ("[", 1), ("[,", 1), ("[,1]", 1), ("[1,]", 3), ("[1,,2]", 3), ("[1 ,2]", 2), ("[1, 2]", 3), ("[1", 2), ("[1,", 3),
            ("[1 2]", 2), ("[[]1]", 3), ("[1}", 2), ("[1:2]", 2), ("{", 1), ("{,", 1), ("{,\"a\":1}", 1), ("{\"a\":1,}", 7),
            ("{\"a\":1,,\"b\":2}", 7), ("{\"a\"}", 4), ("{\"a\",1}", 4), ("{\"a\" :1}", 4), ("{\"a\": 1}", 5), ("{\"a\"::1}", 5),
            ("{\"a\":}", 5), ("{\"a\":,", 5), ("{\"a\":1", 6), ("{\"a\":1]", 6), ("{\"a\":1:", 6), ("{\"a\":1,", 7),
            ("{\"a\":1,1:2}", 7), ("{1:2}", 1), ("{null:2}", 1), ("{a:1}", 1), ("{\"a\":1 }", 6), ("{ }", 1), ("[ ]", 1),
            ("{\"a\":1,\"b\"}", 10), ("{\"a\":1\"b\":2}", 6), ("{:1}", 1), ("{]", 1), ("[}", 1), ("]", 0), ("}", 0), (",", 0), (":", 0),
        ):
            self.fails(text, at)

    def test_something_behind_a_whole_notation(self):
        for text in ("null", "\"a\"", "[]", "[1]", "{}", "{\"a\":1}", "0"):
            for char in CHARACTERS:
                self.fails(text + char, len(text))
            self.fails(text + text, len(text))

    def test_every_short_text(self):
        for text in short_texts(["[", "]", "{", "}", ",", ":", "\"a\"", "0"], 4):
            self.against_search(text)
        for text in short_texts(["\"", "\\", "n", "u", "u003c", "<", "a"], 4):
            self.against_search("\"" + text)
            self.against_search(text + "\"")
        for text in short_texts("-01.a ", 4):
            self.against_search(text)

    def test_each_cut_and_each_other_character(self):
        text = "{\"" + BACKSLASH + "n\":[true,-10,{}],\"a" + BACKSLASH + "u003c\":{\"b\":null},\"c\":\"" + BACKSLASH + "\"" + "\"}"
        self.assertEqual(len(read_notation(text)), 3)
        for at in range(len(text)):
            self.against_search(text[:at])
            self.against_search(text[:at] + text[at + 1:])
            for char in ",:\"0-[]{}\\nu <":
                self.against_search(text[:at] + char + text[at:])
                self.against_search(text[:at] + char + text[at + 1:])

    def test_random_texts(self):
        rng = random.Random(7)
        for _ in range(1500):
            text = model_notation(random_value(rng))
            if len(text) < 100:
                self.against_search(spoilt(rng, text, "[]{},:\"\\nu03ca-12 <tf"), rng.choice([1, 2, 3, 12]))


class DepthTest(ReadCase):
    def test_each_depth(self):
        for most in range(1, 41):
            for nest in (in_lists, in_maps, mixed):
                text = notation(nest(most))
                self.assertEqual(read_notation(text, most), nest(most))
                for depth in (most + 1, most + 2):
                    # All brackets of these stand within each other.
                    text = notation(nest(depth))
                    at = [at for at, char in enumerate(text) if char in "[{"][most]
                    self.fails(text, at, most)
                    self.fails(text[:at + 1], at, most)
                    self.fails(text[:at], at, most)

    def test_empty_ones(self):
        for most in (1, 2, 12, 40):
            for empty in ([], {}):
                self.assertEqual(read_notation(notation(in_lists(most - 1, empty)), most), in_lists(most - 1, empty))
                self.fails(notation(in_lists(most, empty)), most, most)

    def test_twelve_without_a_number(self):
        self.assertEqual(read_notation(notation(in_lists(12))), in_lists(12))
        with self.assertRaises(BadNotation) as caught:
            read_notation(notation(in_lists(13)))
        self.assertEqual(caught.exception.at, 12)
        self.assertEqual(read_notation(text="[[1]]", most=2), [[1]])

    def test_side_by_side(self):
        text = notation([in_lists(11), in_maps(11), in_lists(11)])
        self.assertEqual(notation(read_notation(text)), text)
        self.assertEqual(read_notation("[[],[],{},{\"a\":[]}]", 3), [[], [], {}, {"a": []}])

    def test_against_a_search(self):
        for most in (1, 2, 3):
            for text in short_texts(["[", "]", "{", "}", ",", "\"a\":", "1"], 4):
                self.against_search("[" + text, most)


class KeysTest(ReadCase):
    def test_equal_and_descending(self):
        self.fails("{\"a\":1,\"a\":2}", 7)
        self.fails("{\"b\":1,\"a\":2}", 7)
        self.fails("{\"ab\":1,\"a\":2}", 8)
        self.fails("{\"a\":1,\"\":2}", 7)
        self.fails("{\"\":1,\"\":2}", 6)
        self.fails("{\"a\":1,\"b\":2,\"b\":3}", 13)
        self.fails("{\"a\":1,\"c\":2,\"b\":3}", 13)
        self.fails("[{\"a\":1,\"a\":2}]", 8)
        self.fails("{\"a\":{\"c\":1,\"b\":2}}", 12)

    def test_as_they_are_meant(self):
        less, quote = BACKSLASH + "u003c", BACKSLASH + "\""
        self.assertEqual(read_notation("{\"" + less + "\":1,\"=\":2}"), {"<": 1, "=": 2})
        self.fails("{\"=\":1,\"" + less + "\":2}", 7)
        self.fails("{\"" + less + "\":1,\";\":2}", 12)
        self.assertEqual(read_notation("{\"" + quote + "\":1,\"0\":2}"), {"\"": 1, "0": 2})
        self.fails("{\" \":1,\"" + BACKSLASH + "n\":2}", 7)

    def test_not_before_the_closing_quote(self):
        self.fails("{\"b\":1,\"a", 9)
        self.fails("{\"b\":1,\"", 8)
        self.fails("{\"b\":1,\"a<\":2}", 9)
        self.fails("{\"b\":1,\"a" + BACKSLASH + "x\":2}", 10)
        self.fails("{\"b\":1,\"a" + BACKSLASH + "u00\":2}", 13)
        self.fails("{\"b\":1,\"a\"", 7)

    def test_a_later_fault(self):
        for more in ("", ":", "x", ":x", ":1", ":1x", ":01}", ":[[[[[[[[[[[[[[", ":1,}", ":\"<", ":1}}"):
            self.fails("{\"b\":1,\"a\"" + more, 7)

    def test_an_earlier_fault(self):
        self.fails("[01,{\"b\":1,\"a\":2}]", 2)
        self.fails("{\"b\":x,\"a\":2}", 5)
        self.fails("{\"b\":1 ,\"a\":2}", 6)

    def test_keys_of_other_maps(self):
        text = "{\"b\":{\"a\":1,\"b\":{}},\"c\":[{\"a\":1},{\"a\":1}]}"
        self.assertEqual(read_notation(text), {"b": {"a": 1, "b": {}}, "c": [{"a": 1}, {"a": 1}]})
        self.fails("{\"b\":{\"a\":1},\"a\":1}", 13)
        self.fails("{\"b\":[{\"c\":1}],\"b\":1}", 15)

    def test_against_a_search(self):
        for text in short_texts(["\"a\":1,", "\"b\":{", "\"a", "\"", "}", ",", "x"], 4):
            self.against_search("{\"b\":1," + text)
            self.against_search("{" + text)


class BoundsTest(unittest.TestCase):
    def test_bounds_of_values_play_no_part(self):
        big = {str(key).zfill(3): 0 for key in range(600)}
        self.assertEqual(read_notation(notation(big)), big)
        self.assertEqual(read_notation("[" + "1," * 990 + "1]"), [1] * 991)
        self.assertEqual(read_notation("\"" + "a" * 1990 + "\""), "a" * 1990)


class AnswersTest(unittest.TestCase):
    def test_arguments_and_later_answers_stay(self):
        value = {"b": [{}, []], "a": {"d": 1, "c": 2}}
        kept = copy.deepcopy(value)
        text = notation(value)
        self.assertEqual(value, kept)
        self.assertEqual(list(value), ["b", "a"])
        answer = read_notation(text)
        answer["b"][0]["x"] = 1
        answer["b"].append(2)
        answer["a"].clear()
        self.assertEqual(read_notation(text), kept)
        read_notation("[]").append(1)
        read_notation("{}")["a"] = 1
        self.assertEqual((read_notation("[]"), read_notation("{}")), ([], {}))

    def test_kinds_of_answers(self):
        self.assertIs(type(notation([])), str)
        self.assertEqual([type(part) for part in read_notation("[[],{},\"\",1,true,null]")], [list, dict, str, int, bool, type(None)])


if __name__ == "__main__":
    unittest.main()
