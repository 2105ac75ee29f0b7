"""Points 201 to 203 and 205: rows with marks."""

import copy
import itertools
import unittest

from samepage.marks.marked import mark_step, marked_events, read_row, state_after
from samepage.pages.machine import START, finish, step
from samepage.pages.tokens import events, read
from tests.common import BEGINNINGS, CHARACTERS
from tests.model import expected_states, model_mark_step, model_pieces, model_row_events, model_tokens
from tests.pages import all_pages, pages_of

NAMES = ["-", "script", "style"]


def row_of(text, *texts):
    """The row of a text and others, with the marks 0, 1 .. between them."""
    row = list(text)
    for number, more in enumerate(texts):
        row += [number] + list(more)
    return row


def events_of(kind, text):
    return [(kind, char) for char in text]


class MarkStepTest(unittest.TestCase):
    def check(self, state, after, found):
        for number in (0, 1, 7, 10 ** 30):
            numbered = [(kind, number if item is None else item) for kind, item in found]
            self.assertEqual(mark_step(state, number), (after, numbered), state)

    def test_text(self):
        for pending in ["", "<", "</", "<!", "<!-"] + BEGINNINGS:
            self.check(("text", "", pending), START, events_of("text", pending) + [("text", None)])

    def test_values(self):
        for place in ("bare", "double", "single"):
            for element in NAMES:
                for pending in [""] + BEGINNINGS:
                    found = events_of("value", pending) + [("value", None)]
                    self.check((place, element, pending), (place, element, ""), found)

    def test_comment(self):
        for pending in ("", "-", "--"):
            found = events_of("comment", pending) + [("comment", None)]
            self.check(("comment", "", pending), ("comment", "", ""), found)

    def test_raw(self):
        for element in ("script", "style"):
            goal = "</" + element
            for size in range(len(goal) + 1):
                found = events_of("raw", goal[:size]) + [("raw", None)]
                self.check(("raw", element, goal[:size]), ("raw", element, ""), found)

    def test_equals(self):
        for element in NAMES:
            self.check(("equals", element, ""), ("bare", element, ""), [("value", ""), ("value", None)])

    def test_tag(self):
        for element in ("-", "s", "sc", "scr", "scri", "scrip", "script", "st", "sty", "styl", "style"):
            self.check(("tag", element, ""), ("tag", "-", ""), [("name", None)])

    def test_gap(self):
        for element in NAMES:
            self.check(("gap", element, ""), ("name", element, ""), [("attribute", None)])

    def test_name(self):
        for element in NAMES:
            self.check(("name", element, ""), ("name", element, ""), [("name", None)])

    def test_all_states(self):
        for state in expected_states():
            self.assertEqual(mark_step(state, 3), model_mark_step(state, 3))

    def test_marks_reach_no_other_states(self):
        states = set(expected_states())
        for state in expected_states():
            after = mark_step(state, 0)[0]
            self.assertIn(after, states)
            self.assertIs(type(after), tuple)
            for char in CHARACTERS:
                self.assertIn(step(after, char)[0], states)

    def test_answers_are_new(self):
        for state in expected_states():
            answer = mark_step(state, 2)
            kept = copy.deepcopy(answer)
            answer[1].append("changed")
            self.assertEqual(mark_step(state, 2), kept)


class MarkedEventsTest(unittest.TestCase):
    def test_examples(self):
        self.assertEqual(marked_events([]), [])
        self.assertEqual(marked_events([0]), [("text", 0)])
        self.assertEqual(marked_events(["<", 5]), [("text", "<"), ("text", 5)])
        self.assertEqual(marked_events(["&", "l", 0, "t", ";"]), [
            ("text", "&"), ("text", "l"), ("text", 0), ("text", "t"), ("text", ";")])
        self.assertEqual(marked_events(row_of("<b", " c=", ">")), [
            ("tag", ""), ("name", "b"), ("name", 0), ("attribute", "c"), ("value", ""), ("value", 1), ("close", "")])
        self.assertEqual(marked_events(row_of("<!--", "-", "-")), [
            ("comment", ""), ("comment", 0), ("comment", "-"), ("comment", 1), ("comment", "-"), ("close", "")])
        self.assertEqual(marked_events(row_of("<b '=", "&")), [
            ("tag", ""), ("name", "b"), ("attribute", "'"), ("value", ""), ("value", 0), ("value", "&"), ("close", "")])

    def test_the_same_mark_several_times(self):
        self.assertEqual(marked_events([3, 3, "a", 3]), [("text", 3), ("text", 3), ("text", "a"), ("text", 3)])

    def test_rows_with_a_mark_at_each_place(self):
        for family in (
            ("", "<a/> =\"'&;", 3), ("<b ", "c=\"'> &", 3), ("<b c=\"", "&lt;\" ", 3), ("<!--", "->", 4),
            ("<style>", ["</style", "<", "/", ">"], 3), ("<s", ["cript", " ", ">", "=", "x"], 3),
        ):
            for page in pages_of(*family):
                for at in range(len(page) + 1):
                    row = list(page[:at]) + [0] + list(page[at:]) + [1]
                    self.assertEqual(marked_events(row), model_row_events(row), row)
                    self.assertEqual(read_row(row), model_tokens(model_row_events(row), model_pieces), row)

    def test_every_short_row(self):
        for count in range(6):
            for row in itertools.product(["<", "a", " ", "=", "\"", ">", 0], repeat=count):
                row = list(row)
                self.assertEqual(marked_events(row), model_row_events(row), row)
                self.assertEqual(read_row(row), model_tokens(model_row_events(row), model_pieces), row)


class ReadRowTest(unittest.TestCase):
    def check(self, row, *tokens):
        self.assertEqual(read_row(row), list(tokens), row)

    def test_example(self):
        row = ["<", 0, "<", "b", " ", "c", "=", 1, ">"]
        self.check(row, ("text", ["<", 0]), ("tag", ["b"], [(["c"], [1])]))

    def test_texts(self):
        self.check([])
        self.check([0], ("text", [0]))
        self.check(row_of("ab", "cd", "", "e"), ("text", ["ab", 0, "cd", 1, 2, "e"]))
        self.check([4, 4], ("text", [4, 4]))
        self.check(row_of("&;", "&;", "&;a"), ("text", [0, 1, "a"]))
        self.check(row_of("&lt;a&;b", "&", "l"), ("text", ["<ab", 0, "&", 1, "l"]))
        self.check(row_of("<", "b"), ("text", ["<", 0, "b"]))
        self.check(row_of("</", "b"), ("text", ["</", 0, "b"]))
        self.check(row_of("<!-", "-"), ("text", ["<!-", 0, "-"]))

    def test_comments(self):
        self.check(row_of("<!---->"), ("comment", []))
        self.check(row_of("<!--", "-->"), ("comment", [0]))
        self.check(row_of("<!--a--", "b-->", "c"), ("comment", ["a--", 0, "b"]), ("text", [1, "c"]))
        self.check(row_of("<!---", "->", "--->"), ("comment", ["-", 0, "->", 1, "-"]))
        self.check(row_of("<!--"), ("comment", []))

    def test_raw_texts(self):
        script = ("tag", ["script"], [])
        self.check(row_of("<script>", "</script>", "a"), script, ("raw", [0]), ("end", ["script"], []), ("text", [1, "a"]))
        self.check(row_of("<script></script", ">", "x"), script, ("raw", ["</script", 0, ">", 1, "x"]))
        self.check(row_of("<script>a</", "b"), script, ("raw", ["a</", 0, "b"]))

    def test_names_of_tags(self):
        self.check(row_of("<b", ">c"), ("tag", ["b", 0], []), ("text", ["c"]))
        self.check(row_of("</b", "", "d>"), ("end", ["b", 0, 1, "d"], []))
        self.check(row_of("<script", ">c"), ("tag", ["script", 0], []), ("text", ["c"]))
        self.check(row_of("<s", "tyle>c"), ("tag", ["s", 0, "tyle"], []), ("text", ["c"]))
        self.check(row_of("<", "script>"), ("text", ["<", 0, "script>"]))

    def test_names_of_attributes(self):
        self.check(row_of("<b ", ">"), ("tag", ["b"], [([0], None)]))
        self.check(row_of("<b ", "", "c"), ("tag", ["b"], [([0, 1, "c"], None)]))
        self.check(row_of("<b c", "d e", "=1"), ("tag", ["b"], [(["c", 0, "d"], None), (["e", 1], ["1"])]))
        self.check(row_of("<b c=d ", "=", " f"), ("tag", ["b"], [(["c"], ["d"]), ([0], [1]), (["f"], None)]))
        self.check(row_of("<b c=\"d\"", ">"), ("tag", ["b"], [(["c"], ["d"]), ([0], None)]))
        self.check(row_of("<style ", ">a"), ("tag", ["style"], [([0], None)]), ("raw", ["a"]))

    def test_values(self):
        self.check(row_of("<b c=", ""), ("tag", ["b"], [(["c"], [0])]))
        self.check(row_of("<b c=", "\" d=", "x>"), ("tag", ["b"], [(["c"], [0, "\""]), (["d"], [1, "x"])]))
        self.check(row_of("<b c=\"", " ", "\"d"), ("tag", ["b"], [(["c"], [0, " ", 1]), (["d"], None)]))
        self.check(row_of("<b c='", "&l", "t;'>"), ("tag", ["b"], [(["c"], [0, "&l", 1, "t;"])]))
        self.check(row_of("<b c=\"\" d='' e=&; f>"), (
            "tag", ["b"], [(["c"], []), (["d"], []), (["e"], []), (["f"], None)]))
        self.check(row_of("<b c=&;", "&#34;>"), ("tag", ["b"], [(["c"], [0, "\""])]))

    def test_pieces(self):
        for page in pages_of("", ["<", "b", " ", "=", "&;", "<!--", "-->", ">", "\""], 4):
            row = list(page[:1]) + [0] + list(page[1:]) + [1, 1]
            for token in read_row(row):
                self.check_lists([token[1]] if len(token) == 2 else [token[1]] + [
                    pieces for pair in token[2] for pieces in pair if pieces is not None])

    def check_lists(self, lists):
        for pieces in lists:
            self.assertIs(type(pieces), list)
            self.assertNotIn("", pieces)
            for one, other in zip(pieces, pieces[1:]):
                self.assertFalse(isinstance(one, str) and isinstance(other, str), pieces)

    def test_kinds_of_the_answer(self):
        tokens = read_row(row_of("a<b c=", " d>"))
        self.assertIs(type(tokens), list)
        self.assertTrue(all(type(token) is tuple for token in tokens))
        self.assertIs(type(tokens[1][2]), list)
        self.assertTrue(all(type(pair) is tuple for pair in tokens[1][2]))


def string_of(pieces):
    return "".join(pieces)


def filled(token):
    """A marked token without marks, with strings in the place of the lists of pieces."""
    if len(token) == 2:
        return (token[0], string_of(token[1]))
    return (token[0], string_of(token[1]), [
        (string_of(key), None if value is None else string_of(value)) for key, value in token[2]])


class WithoutMarksTest(unittest.TestCase):
    def test_rows_without_marks_are_pages(self):
        for page in all_pages():
            self.assertEqual(marked_events(list(page)), events(page), page)

    def test_their_tokens_are_those_of_the_page(self):
        for page in all_pages():
            found = read_row(list(page))
            self.assertEqual([filled(token) for token in found], read(page), page)
            for token in found:
                if token[0] in ("text", "raw"):
                    self.assertEqual(len(token[1]), 1, page)


class StateAfterTest(unittest.TestCase):
    def test_examples(self):
        self.assertEqual(state_after([]), START)
        self.assertEqual(state_after(["<"]), ("text", "", "<"))
        self.assertEqual(state_after(["<", 0]), START)
        self.assertEqual(state_after(row_of("<b c=")), ("equals", "-", ""))
        self.assertEqual(state_after(row_of("<b c=", "")), ("bare", "-", ""))
        self.assertEqual(state_after(row_of("<b ", "")), ("name", "-", ""))
        self.assertEqual(state_after(row_of("<script", "")), ("tag", "-", ""))
        self.assertEqual(state_after(row_of("<script ", ">")), ("raw", "script", ""))
        self.assertEqual(state_after(row_of("<!--", "--")), ("comment", "", "--"))
        self.assertEqual(state_after(row_of("<style></style")), ("raw", "style", "</style"))

    def test_each_beginning_of_a_row(self):
        row = row_of(
            "a<", "<b", " c=", " d=\"&l", "t;\" ", "=>&#3", "4;<!--", "--><script e='", "'>x</scr", "ipt></script\n", "><", "!--")
        state = START
        for at in range(len(row) + 1):
            self.assertEqual(state_after(row[:at]), state)
            self.assertIs(type(state_after(row[:at])), tuple)
            if at < len(row) and isinstance(row[at], int):
                state = mark_step(state, row[at])[0]
            elif at < len(row):
                state = step(state, row[at])[0]

    def test_the_events_are_those_on_the_way_and_of_the_end(self):
        for page in pages_of("<", ["s", "tyle", " ", "=", ">", "</", "\""], 4):
            row = list(page) + [0]
            found = []
            for at, item in enumerate(row):
                reader = mark_step if isinstance(item, int) else step
                found += reader(state_after(row[:at]), item)[1]
            self.assertEqual(marked_events(row), found + finish(state_after(row)))


class AnswersTest(unittest.TestCase):
    def test_the_row_and_later_answers_stay(self):
        row = row_of("a<b c=", " d", "e>", "<!--", "--><style>", "")
        kept = list(row)
        for function in (marked_events, read_row):
            answer = function(row)
            again = copy.deepcopy(answer)
            for token in answer:
                for part in token:
                    if isinstance(part, list):
                        part.append("changed")
            answer.clear()
            self.assertEqual(row, kept)
            self.assertEqual(function(row), again)
        state_after(row)
        self.assertEqual(row, kept)

    def test_the_lists_of_an_answer_are_not_shared(self):
        tokens = read_row(row_of("<!----><!----><b c='' d=''>"))
        tokens[0][1].append(0)
        tokens[2][2][0][1].append(0)
        self.assertEqual(tokens[1], ("comment", []))
        self.assertEqual(tokens[2][2][1], (["d"], []))

    def test_long_rows(self):
        for piece in (["a", 0], ["<", 0], ["<", "b", 0, ">"], [7], ["&", "#", 1], list("<!--") + [0]):
            row = piece * (20000 // len(piece))
            # No assertEqual: to show how two lists as long as this differ takes minutes.
            self.assertTrue(marked_events(row) == model_row_events(row), piece)
            self.assertTrue(read_row(row) == model_tokens(model_row_events(row), model_pieces), piece)


if __name__ == "__main__":
    unittest.main()
