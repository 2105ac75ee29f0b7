"""Points 103 to 114 over whole pages, and point 115."""

import copy
import itertools
import unittest

from samepage.pages.machine import START, finish, step
from samepage.pages.tokens import events, is_possible, read
from tests.common import BLANKS, CHARACTERS, DIGITS, LETTERS
from tests.model import model_events, model_tokens, search_page
from tests.pages import all_pages


class EventsTest(unittest.TestCase):
    def test_the_events_are_those_of_the_steps_and_of_the_end(self):
        for page in itertools.chain(all_pages(), map("".join, itertools.product(CHARACTERS, repeat=2))):
            state = START
            found = []
            for char in page:
                state, more = step(state, char)
                found += more
            found += finish(state)
            self.assertEqual(events(page), found, page)

    def test_the_events_are_those_that_the_points_say(self):
        for page in all_pages():
            self.assertEqual(events(page), model_events(page), page)

    def test_examples(self):
        self.assertEqual(events(""), [])
        self.assertEqual(events("a"), [("text", "a")])
        self.assertEqual(events("<"), [("text", "<")])
        self.assertEqual(events("&;"), [])
        self.assertEqual(events("<b c='&l"), [
            ("tag", ""), ("name", "b"), ("attribute", "c"), ("value", ""), ("value", "&"), ("value", "l"),
            ("close", "")])
        self.assertEqual(events("<!---"), [("comment", ""), ("comment", "-"), ("close", "")])
        self.assertEqual(events("</b"), [("end", ""), ("name", "b"), ("close", "")])
        self.assertEqual(events("<style></styl")[-6:], [("raw", char) for char in "</styl"])

    def test_long_pages(self):
        for piece in ("a", "<", "<b>", "&", "&#1", "&;", "<!--", "<a b=\"", "<script>", "</script"):
            page = piece * (20000 // len(piece))
            # No assertEqual: to show how two lists as long as this differ takes minutes.
            self.assertTrue(events(page) == model_events(page), piece)


class ReadTest(unittest.TestCase):
    def check(self, page, tokens):
        self.assertEqual(read(page), tokens, page)

    def test_the_tokens_are_those_that_the_points_say(self):
        for page in all_pages():
            self.assertEqual(read(page), model_tokens(model_events(page)), page)

    def test_example(self):
        self.check("a<b c=1&;>&lt", [("text", "a"), ("tag", "b", [("c", "1")]), ("text", "&lt")])

    def test_kinds_of_the_answer(self):
        tokens = read("a<b c=1 d>x</b e><!--f--><style>g")
        self.assertIs(type(tokens), list)
        self.assertEqual({type(token) for token in tokens}, {tuple})
        self.assertEqual([len(token) for token in tokens], [2, 3, 2, 3, 2, 3, 2])
        for token in tokens:
            if len(token) == 3:
                self.assertIs(type(token[2]), list)
                self.assertTrue(all(type(pair) is tuple and len(pair) == 2 for pair in token[2]))

    def test_texts(self):
        self.check("", [])
        self.check("&;", [])
        self.check("&;&;", [])
        self.check("a b", [("text", "a b")])
        self.check("a&;b", [("text", "ab")])
        self.check("&lt;b>", [("text", "<b>")])
        self.check("<&;b>", [("text", "<b>")])
        self.check("a<", [("text", "a<")])
        self.check("1 < 2 & 3 > 2", [("text", "1 < 2 & 3 > 2")])
        self.check("<b></b>", [("tag", "b", []), ("end", "b", [])])

    def test_values(self):
        self.check("<a b>", [("tag", "a", [("b", None)])])
        self.check("<a b=>", [("tag", "a", [("b", None)])])
        self.check("<a b= >", [("tag", "a", [("b", None)])])
        self.check("<a b= c>", [("tag", "a", [("b", None), ("c", None)])])
        self.check("<a b =c>", [("tag", "a", [("b", None), ("=c", None)])])
        self.check("<a b=\"\">", [("tag", "a", [("b", "")])])
        self.check("<a b=''>", [("tag", "a", [("b", "")])])
        self.check("<a b=&;>", [("tag", "a", [("b", "")])])
        self.check("<a b=c>", [("tag", "a", [("b", "c")])])
        self.check("<a b=c/>", [("tag", "a", [("b", "c/")])])
        self.check("<a b=c d>", [("tag", "a", [("b", "c"), ("d", None)])])
        self.check("<a b=\"c 'd'>\">", [("tag", "a", [("b", "c 'd'>")])])
        self.check("<a b='c \"d\">'>", [("tag", "a", [("b", "c \"d\">")])])
        self.check("<a b=\"c\"d>", [("tag", "a", [("b", "c"), ("d", None)])])
        self.check("<a b='c'd='e'>", [("tag", "a", [("b", "c"), ("d", "e")])])
        self.check("<a b=&;\"c\">", [("tag", "a", [("b", "\"c\"")])])
        self.check("<a b=\"&#034;&;&lt;&x\">", [("tag", "a", [("b", "\"<&x")])])
        self.check("<a b==c>", [("tag", "a", [("b", "=c")])])

    def test_names_of_attributes(self):
        self.check("<a=b>", [("tag", "a", [("=b", None)])])
        self.check("<a =b=c>", [("tag", "a", [("=b", "c")])])
        self.check("<a ==c>", [("tag", "a", [("=", "c")])])
        self.check("<a\"b>", [("tag", "a", [("\"b", None)])])
        self.check("<a b/c>", [("tag", "a", [("b", None), ("c", None)])])
        self.check("<a/b//c / >", [("tag", "a", [("b", None), ("c", None)])])
        self.check("<a b b=1 b>", [("tag", "a", [("b", None), ("b", "1"), ("b", None)])])
        self.check("<a &lt;>", [("tag", "a", [("&lt;", None)])])
        self.check("<a <b>", [("tag", "a", [("<b", None)])])

    def test_names_of_tags(self):
        self.check("<a1-B>", [("tag", "a1-B", [])])
        self.check("<a_>", [("tag", "a", [("_", None)])])
        self.check("</a b=1>", [("end", "a", [("b", "1")])])
        self.check("</ a>", [("text", "</ a>")])
        self.check("<1>", [("text", "<1>")])

    def test_the_end_in_each_place(self):
        self.check("a<", [("text", "a<")])
        self.check("a</", [("text", "a</")])
        self.check("a<!", [("text", "a<!")])
        self.check("a<!-", [("text", "a<!-")])
        self.check("a&#3", [("text", "a&#3")])
        self.check("<a", [("tag", "a", [])])
        self.check("</a", [("end", "a", [])])
        self.check("<script", [("tag", "script", [])])
        self.check("<a ", [("tag", "a", [])])
        self.check("<a b", [("tag", "a", [("b", None)])])
        self.check("<a b=", [("tag", "a", [("b", None)])])
        self.check("<a b=c", [("tag", "a", [("b", "c")])])
        self.check("<a b=&", [("tag", "a", [("b", "&")])])
        self.check("<a b=\"", [("tag", "a", [("b", "")])])
        self.check("<a b=\"c&l", [("tag", "a", [("b", "c&l")])])
        self.check("<a b='", [("tag", "a", [("b", "")])])
        self.check("<a b='c&#", [("tag", "a", [("b", "c&#")])])
        self.check("<!--", [("comment", "")])
        self.check("<!--a", [("comment", "a")])
        self.check("<!--a-", [("comment", "a-")])
        self.check("<!--a--", [("comment", "a--")])
        self.check("<style>", [("tag", "style", [])])
        self.check("<style>a", [("tag", "style", []), ("raw", "a")])
        self.check("<style>a</styl", [("tag", "style", []), ("raw", "a</styl")])
        self.check("<style>a</style", [("tag", "style", []), ("raw", "a</style")])

    def test_comments(self):
        self.check("<!---->", [("comment", "")])
        self.check("<!----><!---->", [("comment", ""), ("comment", "")])
        self.check("<!--a-->b", [("comment", "a"), ("text", "b")])
        self.check("<!--a--b--->", [("comment", "a--b-")])
        self.check("<!-->-->", [("comment", ">")])
        self.check("<!--->-->", [("comment", "->")])
        self.check("<!--<b>&lt;-->", [("comment", "<b>&lt;")])
        self.check("<!-a-->", [("text", "<!-a-->")])

    def test_raw_texts(self):
        script = ("tag", "script", [])
        self.check("<script></script>", [script, ("end", "script", [])])
        self.check("<script>a<b>&lt;<!--</script>c", [
            script, ("raw", "a<b>&lt;<!--"), ("end", "script", []), ("text", "c")])
        self.check("<script>a</style></script>", [script, ("raw", "a</style>"), ("end", "script", [])])
        self.check("<style>a</script></style>", [
            ("tag", "style", []), ("raw", "a</script>"), ("end", "style", [])])
        self.check("<script>a</scripts></script>", [script, ("raw", "a</scripts>"), ("end", "script", [])])
        self.check("<script></script</script>", [script, ("raw", "</script"), ("end", "script", [])])
        self.check("<script>a</script b=1>", [script, ("raw", "a"), ("end", "script", [("b", "1")])])
        self.check("<script>a</script/b>", [script, ("raw", "a"), ("end", "script", [("b", None)])])
        self.check("<script a='>'>b</script\n", [
            ("tag", "script", [("a", ">")]), ("raw", "b"), ("end", "script", [])])
        self.check("<script/>a", [script, ("raw", "a")])
        self.check("<scripts>a", [("tag", "scripts", []), ("text", "a")])
        self.check("<SCRIPT>a", [("tag", "SCRIPT", []), ("text", "a")])
        self.check("</script>a", [("end", "script", []), ("text", "a")])
        self.check("<script></script><script>a", [script, ("end", "script", []), script, ("raw", "a")])

    def test_long_pages(self):
        for page, tokens in (
            ("a" * 20000, [("text", "a" * 20000)]),
            ("<a>" * 6666, [("tag", "a", [])] * 6666),
            ("<a" + " b" * 9999, [("tag", "a", [("b", None)] * 9999)]),
            ("<!--" + "-" * 19990 + ">", [("comment", "-" * 19988)]),
            ("&;" * 10000, []),
            ("<style>" + "</style" * 2800, [("tag", "style", []), ("raw", "</style" * 2800)]),
        ):
            self.assertTrue(read(page) == tokens, page[:20])


class IsPossibleTest(unittest.TestCase):
    def yes(self, *tokens):
        self.assertIs(is_possible(list(tokens)), True, tokens)

    def no(self, *tokens):
        self.assertIs(is_possible(list(tokens)), False, tokens)

    def test_nothing(self):
        self.yes()

    def test_texts(self):
        self.yes(("text", "a"))
        self.no(("text", ""))
        self.no(("text", "a"), ("text", "b"))
        self.no(("tag", "a", []), ("text", "b"), ("text", "c"))
        self.no(("text", "a"), ("text", ""))
        self.yes(("text", "a"), ("comment", ""), ("text", "b"))
        self.yes(("text", "<b>&lt;</b><!--"), ("tag", "b", []), ("text", "c"), ("end", "b", []), ("text", "d"))

    def test_names_of_tags(self):
        for kind in ("tag", "end"):
            for char in CHARACTERS:
                first = self.yes if char in LETTERS else self.no
                first((kind, char, []))
                first((kind, char + "a", []))
                later = self.yes if char in LETTERS + DIGITS + "-" else self.no
                later((kind, "a" + char, []))
                later((kind, "a" + char + "b", []))
                later((kind, "abc" + char, [("d", "e")]))
            self.no((kind, "", []))
            self.no((kind, "", [("b", None)]))

    def test_names_of_attributes(self):
        for kind in ("tag", "end"):
            for char in CHARACTERS:
                first = self.no if char in BLANKS + "/>" else self.yes
                first((kind, "a", [(char, None)]))
                first((kind, "a", [(char + "b", "c")]))
                first((kind, "a", [("b", "c"), (char, "")]))
                later = self.no if char in BLANKS + "/>=" else self.yes
                later((kind, "a", [("b" + char, None)]))
                later((kind, "a", [("b" + char + "c", "d")]))
                later((kind, "a", [("b", None), ("bcd" + char, "")]))
                later((kind, "a", [("=" + char, "")]))
            self.no((kind, "a", [("", None)]))
            self.no((kind, "a", [("", "b")]))
            self.no((kind, "a", [("b", "c"), ("", "d")]))

    def test_values(self):
        for kind in ("tag", "end"):
            for value in [None, "", "\"'", "&lt;", " \n>"] + CHARACTERS:
                self.yes((kind, "a", [("b", value)]))

    def test_comments(self):
        for text in ("", "-", "--", "---", "->", ">", "--!>", "->-", "- ->", "-- >", "a--", "<!--", "--a>"):
            self.yes(("comment", text))
            self.yes(("comment", text), ("comment", text), ("text", "a"))
        for text in ("-->", "a-->", "-->b", "a-->b", "--->", "<!---->"):
            self.no(("comment", text))
            self.no(("text", "a"), ("comment", text))

    def test_what_stands_behind_a_raw_tag(self):
        for name, other in (("script", "style"), ("style", "script")):
            tag = ("tag", name, [("b", None)])
            self.yes(tag)
            self.yes(tag, ("end", name, []))
            self.yes(tag, ("end", name, [("b", "c")]), ("text", "d"))
            self.yes(tag, ("raw", "a"))
            self.no(tag, ("text", "a"))
            self.no(tag, ("comment", "a"))
            self.no(tag, ("tag", "a", []))
            self.no(tag, tag)
            self.no(tag, ("end", "a", []))
            self.no(tag, ("end", other, []))
            self.no(tag, ("end", name + "s", []))
            self.no(tag, ("end", name[:-1], []))
            self.no(tag, ("end", name.upper(), []))

    def test_what_stands_behind_a_raw_text(self):
        for name, other in (("script", "style"), ("style", "script")):
            tag, raw, end = ("tag", name, []), ("raw", "a"), ("end", name, [])
            self.yes(tag, raw)
            self.yes(tag, raw, end)
            self.yes(tag, raw, end, ("text", "b"))
            self.yes(tag, raw, end, tag, raw)
            self.yes(("text", "a"), tag, raw, ("end", name, [("b", "c")]))
            self.no(tag, raw, ("text", "b"))
            self.no(tag, raw, ("raw", "b"))
            self.no(tag, raw, ("comment", "b"))
            self.no(tag, raw, tag)
            self.no(tag, raw, ("tag", "b", []))
            self.no(tag, raw, ("end", other, []))
            self.no(tag, raw, ("end", "b", []))

    def test_where_a_raw_text_stands(self):
        self.no(("raw", "a"))
        self.no(("raw", "a"), ("end", "script", []))
        self.no(("tag", "a", []), ("raw", "a"))
        self.no(("tag", "scripts", []), ("raw", "a"))
        self.no(("tag", "SCRIPT", []), ("raw", "a"))
        self.no(("end", "script", []), ("raw", "a"))
        self.no(("text", "a"), ("raw", "a"))
        self.no(("comment", "a"), ("raw", "a"))
        self.no(("tag", "script", []), ("end", "script", []), ("raw", "a"))

    def test_what_a_raw_text_contains(self):
        for name, other in (("script", "style"), ("style", "script")):
            tag, end = ("tag", name, []), ("end", name, [])
            for text in (
                "a", "<", "</", "</" + name, "a</" + name, "</" + name + "s>", "</" + other + ">", "</" + name.upper() + ">",
                "< /" + name + ">", "</ " + name + ">", "/" + name + ">", "<" + name + ">", "</" + name + "=>", "&lt;", "<!--",
                "</" + name + "</" + name,
            ):
                self.yes(tag, ("raw", text))
                self.yes(tag, ("raw", text), end)
            self.no(tag, ("raw", ""))
            self.no(tag, ("raw", ""), end)
            for char in " \n/>":
                self.no(tag, ("raw", "</" + name + char))
                self.no(tag, ("raw", "a</" + name + char + "b"), end)
                self.no(tag, ("raw", "</" + name + "</" + name + char), end)

    def test_end_tags_stand_anywhere(self):
        self.yes(("end", "script", []), ("text", "a"))
        self.yes(("end", "a", []), ("end", "b", []))
        self.yes(("text", "a"), ("end", "style", []), ("end", "script", []))

    def test_the_tokens_of_any_page_are_possible(self):
        for page in all_pages():
            self.assertIs(is_possible(read(page)), True, page)

    def test_exactly_if_some_page_has_these_tokens(self):
        signs = [
            ("text", "a"), ("text", ""), ("comment", "-"), ("comment", "-->"), ("tag", "b", []), ("tag", "script", []),
            ("tag", "style", []), ("end", "b", []), ("end", "script", []), ("end", "style", []), ("raw", "r"),
            ("raw", ""), ("raw", "</style "),
        ]
        for count in range(4):
            for tokens in itertools.product(signs, repeat=count):
                wanted = search_page(list(tokens)) is not None
                self.assertIs(is_possible(list(tokens)), wanted, tokens)


class AnswersTest(unittest.TestCase):
    def test_changing_an_answer_changes_no_later_one(self):
        page = "a<b c=1 d>&lt;</b e><!--f--><style g>h</style"
        kept_events, kept = copy.deepcopy(events(page)), copy.deepcopy(read(page))
        events(page).clear()
        tokens = read(page)
        for token in tokens:
            if len(token) == 3:
                token[2].append(("x", "y"))
        tokens.clear()
        self.assertEqual(events(page), kept_events)
        self.assertEqual(read(page), kept)

    def test_the_lists_of_an_answer_are_not_shared(self):
        tokens = read("<a></a><b>")
        tokens[0][2].append(("x", None))
        self.assertEqual(tokens[1:], [("end", "a", []), ("tag", "b", [])])

    def test_is_possible_leaves_its_argument(self):
        for tokens in (read("<b c=1>x<style>y</style>"), [("raw", "a")], [("text", "a"), ("text", "b")]):
            kept = copy.deepcopy(tokens)
            is_possible(tokens)
            self.assertEqual(tokens, kept)


if __name__ == "__main__":
    unittest.main()
