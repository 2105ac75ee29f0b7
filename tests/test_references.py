"""Points 101 and 102: characters, references and beginnings."""

import itertools
import unittest

from samepage.pages.references import is_beginning, least_reference, reference_text
from tests.common import BEGINNINGS, CHARACTERS, DIGITS, REFERENCES


class ReferenceTextTest(unittest.TestCase):
    def test_named(self):
        self.assertEqual(reference_text("&;"), "")
        self.assertEqual(reference_text("&lt;"), "<")
        self.assertEqual(reference_text("&gt;"), ">")
        self.assertEqual(reference_text("&amp;"), "&")

    def test_examples(self):
        self.assertEqual(reference_text("&#034;"), "\"")
        self.assertEqual(reference_text("&#34;"), "\"")
        self.assertEqual(reference_text("&#10;"), "\n")
        self.assertEqual(reference_text("&#010;"), "\n")
        self.assertEqual(reference_text("&#32;"), " ")
        self.assertEqual(reference_text("&#36;"), "$")
        self.assertEqual(reference_text("&#38;"), "&")
        self.assertEqual(reference_text("&#126;"), "~")

    def test_every_number_in_every_writing(self):
        count = 0
        for width in (1, 2, 3):
            for digits in itertools.product(DIGITS, repeat=width):
                text = "".join(digits)
                number = int(text)
                stands = number == 10 or 32 <= number <= 126 and number != 37
                with self.subTest(digits=text):
                    self.assertEqual(reference_text("&#" + text + ";"), chr(number) if stands else None)
                count += stands
        self.assertEqual(count, 163)

    def test_numbers_that_stand_for_nothing(self):
        for digits in ("37", "037", "127", "9", "09", "009", "11", "011", "31", "031", "000", "00", "0", "13", "999"):
            self.assertIsNone(reference_text("&#" + digits + ";"), digits)

    def test_texts_that_are_no_references(self):
        for text in (
            "", "&", ";", "#", "&#", "&#;", "&#x41;", "&#0034;", "&#1234;", "&#0010;", "&#34", "&lt", "&gt", "&amp",
            "&lt;;", "&#34;;", "&#34; ", " &#34;", "x&lt;", "&lt;x", "&;;", "&&;", "&&#34;", "&LT;", "&Lt;", "&quot;",
            "&apos;", "&nbsp;", "lt;", "#34;", "&34;", "&# 34;", "&#3 4;", "&#-34;", "&#+34;", "&#3_4;", "&#34\n;",
            "&l;", "&l t;", "&a;", "&am;", "a", "<", "&" * 400, "&#" + "0" * 390 + "65;",
        ):
            with self.subTest(text=text):
                self.assertIsNone(reference_text(text))

    def test_one_character_changed(self):
        for text in ("&;", "&lt;", "&gt;", "&amp;", "&#10;", "&#034;", "&#126;"):
            for at in range(len(text)):
                for char in CHARACTERS:
                    changed = text[:at] + char + text[at + 1:]
                    self.assertEqual(reference_text(changed), REFERENCES.get(changed), changed)


class IsBeginningTest(unittest.TestCase):
    def test_examples(self):
        for text in ("&", "&am", "&#12", "&#", "&l", "&lt", "&g", "&gt", "&a", "&amp", "&#0", "&#01", "&#010", "&#34"):
            self.assertIs(is_beginning(text), True, text)
        for text in ("&x", "&#13", "&#37", "&#127"):
            self.assertIs(is_beginning(text), False, text)

    def test_every_beginning(self):
        for text in BEGINNINGS:
            self.assertIs(is_beginning(text), True, text)

    def test_references_are_no_beginnings(self):
        for text in REFERENCES:
            self.assertIs(is_beginning(text), False, text)

    def test_every_beginning_with_one_more_character(self):
        beginnings = set(BEGINNINGS)
        for text in [""] + BEGINNINGS + list(REFERENCES):
            for char in CHARACTERS:
                self.assertIs(is_beginning(text + char), text + char in beginnings, text + char)

    def test_every_digits(self):
        beginnings = set(BEGINNINGS)
        for width in (1, 2, 3, 4):
            for digits in itertools.product(DIGITS, repeat=width):
                text = "&#" + "".join(digits)
                self.assertIs(is_beginning(text), text in beginnings, text)

    def test_texts_that_are_none(self):
        for text in (
            "", "a", "#", ";", "lt", " &", "&&", "& ", "&;;", "&L", "&lT", "&ltx", "&gl", "&amx", "&ampx", "&amp&",
            "&#x", "&#-", "&#1x", "&#2", "&#20", "&#00", "&#000", "&#02", "&#037", "&#11;", "&#0034", "&#1000", "&#a1",
            "&#" + "1" * 398,
        ):
            with self.subTest(text=text):
                self.assertIs(is_beginning(text), False)


class LeastReferenceTest(unittest.TestCase):
    def test_example(self):
        self.assertEqual([least_reference(char) for char in "<&"], ["&lt;", "&#38;"])

    def test_examples(self):
        self.assertEqual(least_reference(">"), "&gt;")
        self.assertEqual(least_reference("\n"), "&#10;")
        self.assertEqual(least_reference(" "), "&#32;")
        self.assertEqual(least_reference("\""), "&#34;")
        self.assertEqual(least_reference("c"), "&#99;")
        self.assertEqual(least_reference("d"), "&#100;")

    def test_least_of_all_references_for_each_character(self):
        self.assertEqual(len(CHARACTERS), 95)
        for char in CHARACTERS:
            references = [text for text, meant in REFERENCES.items() if meant == char]
            least = min(references, key=lambda text: (len(text), text))
            with self.subTest(char=char):
                self.assertEqual(least_reference(char), least)
                self.assertEqual(reference_text(least_reference(char)), char)


if __name__ == "__main__":
    unittest.main()
