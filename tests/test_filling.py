"""Points 203 to 206: marks and texts in their place, open and closed places."""

import copy
import itertools
import unittest

from samepage.errors import MissingText, SamepageError
from samepage.marks.filling import fill, hopeless_text, is_open, marks_of
from samepage.marks.marked import mark_step, read_row, state_after
from samepage.pages.machine import START, step
from samepage.pages.tokens import is_possible, read
from tests.common import CHARACTERS
from tests.model import expected_states, search_page
from tests.pages import pages_of

OPEN_PLACES = ["text", "bare", "double", "single", "equals"]


def row_of(text, *texts):
    """The row of a text and others, with the marks 0, 1 .. between them."""
    row = list(text)
    for number, more in enumerate(texts):
        row += [number] + list(more)
    return row


def rows_to_states():
    """A row without marks to each state that can be reached, one of the shortest."""
    rows = {START: []}
    due = [START]
    for state in due:
        for char in CHARACTERS:
            after = step(state, char)[0]
            if after not in rows:
                rows[after] = rows[state] + [char]
                due.append(after)
    return rows


ROWS = rows_to_states()


class FillTest(unittest.TestCase):
    def check(self, tokens, texts, *wanted):
        self.assertEqual(fill(tokens, texts), list(wanted), (tokens, texts))

    def test_nothing(self):
        self.check([], [])
        self.check([], ["a"])

    def test_each_kind_of_token(self):
        self.check([("text", ["a", 0])], ["b"], ("text", "ab"))
        self.check([("tag", ["script"], []), ("raw", [0, "b"])], ["a"], ("tag", "script", []), ("raw", "ab"))
        self.check([("comment", ["a", 0, "b"])], ["-"], ("comment", "a-b"))
        self.check([("tag", ["a", 0], [])], ["b"], ("tag", "ab", []))
        self.check([("end", ["a", 0, "c"], [])], ["b"], ("end", "abc", []))
        self.check([("tag", ["a"], [([0], None)])], ["b"], ("tag", "a", [("b", None)]))
        self.check([("end", ["a"], [(["b", 0], None)])], ["c"], ("end", "a", [("bc", None)]))
        self.check([("tag", ["a"], [(["b"], [0])])], ["c"], ("tag", "a", [("b", "c")]))
        self.check([("end", ["a"], [(["b"], ["c", 0, "e"])])], ["d"], ("end", "a", [("b", "cde")]))

    def test_several_marks_in_one_list(self):
        self.check([("text", [2, "-", 0, 1, "+", 0])], ["a", "b", "c"], ("text", "c-ab+a"))
        self.check([("comment", [1, 1, 1])], ["a", "b"], ("comment", "bbb"))
        self.check([("tag", ["t", 0, 1], [([1, 0], [0, 1])])], ["a", "b"], ("tag", "tab", [("ba", "ab")]))

    def test_texts_stand_as_they_are(self):
        for text in CHARACTERS + ["<b>", "&lt;", "-->", "\"'", "", "a b\n"]:
            self.check([("comment", ["x", 0])], [text], ("comment", "x" + text))
            self.check([("text", ["x", 0, "y"])], [text], ("text", "x" + text + "y"))
            self.check([("tag", ["x", 0], [([0], [0])])], [text], ("tag", "x" + text, [(text, text)]))

    def test_texts_that_are_empty(self):
        self.check([("text", [0])], [""])
        self.check([("text", [0, 1])], ["", ""])
        self.check([("text", [0, 1])], ["", "a"], ("text", "a"))
        self.check([("text", [0, "b"])], [""], ("text", "b"))
        self.check(
            [("tag", ["style"], []), ("raw", [0]), ("end", ["style"], [])], [""],
            ("tag", "style", []), ("end", "style", []))
        self.check([("tag", ["a"], []), ("text", [0]), ("comment", [])], [""], ("tag", "a", []), ("comment", ""))

    def test_other_empty_strings_stay(self):
        self.check([("comment", [])], [], ("comment", ""))
        self.check([("comment", [0])], [""], ("comment", ""))
        self.check([("tag", [0], [])], [""], ("tag", "", []))
        self.check([("end", [], [])], [], ("end", "", []))
        self.check([("tag", ["a"], [([0], None)])], [""], ("tag", "a", [("", None)]))
        self.check([("tag", ["a"], [([], [])])], [], ("tag", "a", [("", "")]))
        self.check([("tag", ["a"], [(["b"], [0]), (["c"], [])])], [""], ("tag", "a", [("b", ""), ("c", "")]))

    def test_no_value_is_no_empty_value(self):
        self.check([("tag", ["a"], [(["b"], None), (["c"], [])])], [], ("tag", "a", [("b", None), ("c", "")]))

    def test_texts_that_no_mark_needs(self):
        self.check([("text", [1])], ["a", "b", "c"], ("text", "b"))

    def test_a_row(self):
        row = row_of("a<", "<b", " c=", ">", "<!--", "--><style>", "</style")
        self.check(
            read_row(row), ["x", "1", "", "", "-", "y"],
            ("text", "a<x"), ("tag", "b1", [("c", "")]), ("comment", "-"), ("tag", "style", []), ("raw", "y</style"))

    def test_rows_whose_texts_are_plain_letters(self):
        for front in ("", "<b ", "<b c=", "<b c=\"", "<!--", "<style>", "<b"):
            for tail in ("", "d", " d", "-->", "\">e", "</style>f", ">g"):
                page = front + "xy" + tail
                self.check(read_row(list(front) + [1] + list(tail)), ["a", "xy"], *read(page))


class MissingTextTest(unittest.TestCase):
    def check(self, tokens, texts, mark):
        with self.assertRaises(MissingText) as caught:
            fill(tokens, texts)
        self.assertEqual(caught.exception.at, mark, (tokens, texts))
        self.assertIsInstance(caught.exception, SamepageError)

    def test_each_kind_of_token(self):
        for tokens in (
            [("text", ["a", 0])], [("raw", [0])], [("comment", [0, "a"])], [("tag", [0], [])], [("end", [0], [])],
            [("tag", ["a"], [([0], None)])], [("end", ["a"], [(["b"], None), ([0], ["c"])])],
            [("tag", ["a"], [(["b"], [0])])], [("end", ["a"], [(["b"], ["c"]), (["d"], [0])])],
        ):
            self.check(tokens, [], 0)

    def test_marks_that_are_too_great(self):
        self.check([("text", [1])], ["a"], 1)
        self.check([("text", [2])], ["a", "b"], 2)
        self.check([("text", [10 ** 30])], ["a", "b"], 10 ** 30)
        self.assertEqual(fill([("text", [1])], ["a", "b"]), [("text", "b")])

    def test_the_first_in_the_order_of_the_tokens(self):
        self.check([("text", [5]), ("comment", [3])], ["a"], 5)
        self.check([("text", [0, 7, 3])], ["a"], 7)
        self.check([("text", [0]), ("comment", [3]), ("comment", [9])], ["a"], 3)
        self.check([("tag", [4], [([3], [2])]), ("text", [1])], ["a"], 4)
        self.check([("tag", ["a"], [([3], [2])]), ("text", [1])], ["a"], 3)
        self.check([("tag", ["a"], [(["b"], [2]), ([1], None)])], ["a"], 2)
        self.check([("tag", ["a"], [(["b"], None), ([6], [1])])], ["a"], 6)
        self.check([("end", ["a", 8], [([9], [2])])], ["a"], 8)

    def test_also_where_the_texts_before_it_are_empty(self):
        self.check([("text", [0]), ("comment", [1])], [""], 1)


class MarksOfTest(unittest.TestCase):
    def check(self, tokens, *marks):
        self.assertEqual(marks_of(tokens), list(marks), tokens)

    def test_examples(self):
        self.check([])
        self.check([("text", ["a"]), ("comment", []), ("tag", ["b"], [(["c"], None), (["d"], [])])])
        self.check([("text", [3, "a", 1])], 3, 1)
        self.check([("comment", [0, 0, "a", 0])], 0, 0, 0)
        self.check([("raw", ["a", 12, 4])], 12, 4)

    def test_names_and_values_in_order(self):
        self.check([("tag", ["a", 5], [([4], [3, 2]), (["b", 9], None), (["c"], [1])]), ("end", [0], [([7], [8])])],
                   5, 4, 3, 2, 9, 1, 0, 7, 8)

    def test_the_marks_of_a_row_are_its_integers(self):
        for count in range(6):
            for row in itertools.product(["<", "b", " ", "=", ">", 0, 1], repeat=count):
                self.check(read_row(list(row)), *[item for item in row if isinstance(item, int)])
        for state in expected_states():
            for tail in ("", "\">", ">a", "-->"):
                self.check(read_row(ROWS[state] + [8] + list(tail) + [3, 8]), 8, 3, 8)


class WithoutMarksTest(unittest.TestCase):
    def test_pages(self):
        for family in (
            ("", "<a/> =\"'&;", 4), ("<b c=\"", "&lt;\" >", 4), ("<!--", "->a", 5), ("<b ", "c=\"'> &", 4),
            ("<style>", ["</style", "<", "/", ">", "&lt;"], 4),
        ):
            for page in pages_of(*family):
                tokens = read_row(list(page))
                self.assertEqual(fill(tokens, []), read(page), page)
                self.assertEqual(marks_of(tokens), [], page)

    def test_pages_to_each_state(self):
        for row in ROWS.values():
            self.assertEqual(fill(read_row(row), []), read("".join(row)), row)


class PlacesTest(unittest.TestCase):
    def test_open_and_closed(self):
        for state in expected_states():
            self.assertIs(is_open(state), state[0] in OPEN_PLACES, state)
            self.assertEqual(hopeless_text(state) is None, state[0] in OPEN_PLACES, state)

    def test_the_hopeless_texts(self):
        for element in ("-", "s", "sc", "script", "style", "sty"):
            self.assertEqual(hopeless_text(("tag", element, "")), ">")
        for element in ("-", "script", "style"):
            self.assertEqual(hopeless_text(("gap", element, "")), ">")
            self.assertEqual(hopeless_text(("name", element, "")), ">")
        for pending in ("", "-", "--"):
            self.assertEqual(hopeless_text(("comment", "", pending)), "-->")
        for pending in ("", "<", "</", "</s"):
            self.assertEqual(hopeless_text(("raw", "script", pending)), "</script>")
            self.assertEqual(hopeless_text(("raw", "style", pending)), "</style>")

    def test_no_page_has_a_hopeless_text(self):
        closed = [state for state in expected_states() if state[0] not in OPEN_PLACES]
        self.assertEqual({state[0] for state in closed}, {"tag", "gap", "name", "comment", "raw"})
        for state in closed:
            for tail in ("", "a", ">b", " c='d'>", "-->e", "=f>", "</script>", "</style >"):
                for more in ([], [1]):
                    row = ROWS[state] + more + [0] + list(tail)
                    text = hopeless_text(state_after(ROWS[state] + more))
                    tokens = fill(read_row(row), [text, "x"])
                    self.assertIs(is_possible(tokens), False, (row, tokens))
                    self.assertIn(text, str(tokens).replace("\\", ""))

    def test_a_search_finds_no_page_either(self):
        for state in (
            ("tag", "-", ""), ("tag", "style", ""), ("gap", "-", ""), ("gap", "script", ""), ("name", "-", ""),
            ("comment", "", ""), ("comment", "", "--"), ("raw", "style", ""), ("raw", "script", "</"),
        ):
            for tail in ("", "a", ">", "--"):
                tokens = fill(read_row(ROWS[state] + [0] + list(tail)), [hopeless_text(state)])
                self.assertIsNone(search_page(tokens), (state, tokens))

    def test_any_text_can_be_shown_in_an_open_place(self):
        every = "".join(CHARACTERS)
        texts = ["", "<b c='d'>", "</b>", "<!--a-->", "&lt;", "&;", "--", "\"", "'", " a\n", ">", ";", "lt;", "#34;"]
        for state in expected_states():
            if state[0] not in OPEN_PLACES:
                continue
            for text, tail in [(every, "")] + [(text, tail) for text in texts for tail in ("b>", "\";")]:
                shown = "&;" + "".join("&#" + str(ord(char)) + ";" for char in text)
                page = "".join(ROWS[state]) + shown + tail
                tokens = fill(read_row(ROWS[state] + [0] + list(tail)), [text])
                self.assertEqual(read(page), tokens, (state, text, tail))
                self.assertIs(is_possible(tokens), True, (state, text, tail))

    def test_marks_reach_only_these_states(self):
        self.assertEqual(set(ROWS), set(expected_states()))
        for state in expected_states():
            self.assertIn(mark_step(state, 0)[0], ROWS)


class AnswersTest(unittest.TestCase):
    def test_arguments_and_later_answers_stay(self):
        tokens = read_row(row_of("a", "<b c='", "' ", " e><style>", "f"))
        texts = ["1", "2", "3", "4", "5"]
        kept = copy.deepcopy((tokens, texts))
        answer, marks = fill(tokens, texts), marks_of(tokens)
        again = copy.deepcopy((answer, marks))
        answer[1][2].append("changed")
        answer.clear()
        marks.append("changed")
        self.assertEqual((tokens, texts), kept)
        self.assertEqual((fill(tokens, texts), marks_of(tokens)), again)

    def test_tokens_without_marks_are_copied(self):
        tokens = [("tag", ["a"], []), ("tag", ["b"], [])]
        answer = fill(tokens, [])
        answer[0][2].append(("c", None))
        self.assertEqual(answer[1], ("tag", "b", []))
        self.assertEqual(tokens, [("tag", ["a"], []), ("tag", ["b"], [])])

    def test_kinds_of_the_answer(self):
        tokens = fill(read_row(row_of("a<b c=", " d>")), ["x"])
        self.assertIs(type(tokens), list)
        self.assertTrue(all(type(token) is tuple for token in tokens))
        self.assertIs(type(tokens[1][2]), list)
        self.assertTrue(all(type(pair) is tuple for pair in tokens[1][2]))

    def test_the_arguments_of_an_error_stay(self):
        tokens, texts = [("text", [0]), ("tag", ["a"], [(["b"], [1])])], [""]
        kept = copy.deepcopy((tokens, texts))
        self.assertRaises(MissingText, fill, tokens, texts)
        self.assertEqual((tokens, texts), kept)


if __name__ == "__main__":
    unittest.main()
