"""Point 116: the shortest page of tokens."""

import copy
import itertools
import random
import unittest

from samepage.errors import Impossible
from samepage.pages.tokens import is_possible, read
from samepage.pages.writing import shortest_page
from tests.common import CHARACTERS, LETTERS, REFERENCES
from tests.model import search_page
from tests.pages import all_pages


def tag(*attributes):
    return ("tag", "a", list(attributes))


class WritingTest(unittest.TestCase):
    def check(self, tokens, page):
        self.assertEqual(shortest_page(tokens), page, tokens)
        self.assertEqual(read(page), tokens)


class ExamplesTest(WritingTest):
    def test_example(self):
        self.check([("text", "<a & b")], "<&;a & b")

    def test_nothing(self):
        self.check([], "")

    def test_texts_without_references(self):
        for text in ("a", "<", "<1", "< b", "</", "</ b", "</>", "<!", "<!-", "<!- -", "<!a", "<>", "&", "&&", "& lt;",
                     "&x;", "&lt", "&#13;", "&#37;", "&#127;", "&#0034;", "&LT;", "a > b", "\"'=/", "\n", "<<", "&<&"):
            self.check([("text", text)], text)

    def test_texts_with_the_empty_reference(self):
        for text, page in (
            ("<b", "<&;b"), ("<b>", "<&;b>"), ("<Z", "<&;Z"), ("</b", "<&;/b"), ("<!--", "<!&;--"), ("<!---", "<!&;---"),
            ("&lt;", "&&;lt;"), ("&gt;", "&&;gt;"), ("&amp;", "&&;amp;"), ("&;", "&&;;"), ("&#10;", "&#&;10;"),
            ("&#034;", "&#&;034;"), ("&#126;", "&#&;126;"), ("<<b", "<<&;b"), ("<b<b", "<&;b<&;b"), ("&;&;", "&&;;&&;;"),
            ("&l&lt;", "&l&&;lt;"), ("&#1&#10;", "&#1&#&;10;"), ("<!-<!--", "<!-<!&;--"), ("</<b", "</<&;b"),
        ):
            self.check([("text", text)], page)

    def test_a_text_in_front_of_other_tokens(self):
        for text in ("<", "</", "<!", "<!-", "&", "&l", "&#1", "&#12", "a"):
            self.check([("text", text), tag(), ("text", "b")], text + "<a>b")
            self.check([("text", text), ("end", "a", []), ("text", "b")], text + "</a>b")
            self.check([("text", text), ("comment", "c"), ("text", "b")], text + "<!--c-->b")

    def test_a_character_behind_a_text(self):
        for char in CHARACTERS:
            page = "<&;" + char if char.isalpha() else "<" + char
            self.check([("text", "<" + char)], page)

    def test_every_letter_behind_less(self):
        for char in LETTERS:
            for more in ("", "!", "0", "z"):
                self.check([("text", "<" + char + more)], "<&;" + char + more)
                self.check([("text", "</" + char + more)], "<&;/" + char + more)

    def test_texts_that_are_parted_side_by_side(self):
        signs = {
            "<b": "<&;b", "</b": "<&;/b", "<!--": "<!&;--", "&;": "&&;;", "&lt;": "&&;lt;", "&amp;": "&&;amp;",
            "&#10;": "&#&;10;", "&#126;": "&#&;126;", "<!-": "<!-", "</": "</", "<": "<", "&": "&", "&#1": "&#1",
        }
        for one in signs:
            for other in signs:
                self.check([("text", one + other)], signs[one] + signs[other])
                self.check([("text", "a" + one + other + "]")], "a" + signs[one] + signs[other] + "]")

    def test_every_reference_as_a_text(self):
        for text in REFERENCES:
            least = min(text[:at] + "&;" + text[at:] for at in range(1, len(text)))
            self.check([("text", text)], least)
            self.check([tag(("b", text)), ("text", "c")], "<a\nb=" + least + ">c")


class TagsTest(WritingTest):
    def test_the_last_token_is_not_closed(self):
        self.check([tag()], "<a")
        self.check([("end", "a", [])], "</a")
        self.check([tag(), tag()], "<a><a")
        self.check([tag(), ("text", "b")], "<a>b")
        self.check([tag(("b", None))], "<a\nb")
        self.check([tag(("b", None)), ("text", "c")], "<a\nb>c")
        self.check([tag(("b", "c"))], "<a\nb=c")
        self.check([tag(("b", "c d e"))], "<a\nb=\"c d e")
        self.check([tag(("b", "c d e")), ("text", "f")], "<a\nb=\"c d e\">f")
        self.check([tag(("b", ""))], "<a\nb=\"")
        self.check([tag(("b", "")), ("text", "c")], "<a\nb=\"\">c")
        self.check([("tag", "script", [])], "<script")

    def test_names_that_need_no_blank(self):
        self.check([tag(("=b", None))], "<a=b")
        self.check([tag(("\"", "c"))], "<a\"=c")
        self.check([tag(("_", None), ("=", None))], "<a_\n=")
        self.check([tag(("1", None))], "<a\n1")
        self.check([tag(("-", None))], "<a\n-")
        for char in CHARACTERS:
            if char not in " \n/>":
                front = "<a\n" if char.isalnum() or char == "-" else "<a"
                self.check([tag((char, None))], front + char)

    def test_attributes_behind_one_another(self):
        self.check([tag(("b", None), ("c", None))], "<a\nb\nc")
        self.check([tag(("b", None), ("=c", None))], "<a\nb\n=c")
        self.check([tag(("b", "c"), ("d", "e"))], "<a\nb=c\nd=e")
        self.check([tag(("b", ""), ("d", ""))], "<a\nb=\"\"d=\"")
        self.check([tag(("b", " "), ("d", "e"))], "<a\nb=\" \"d=e")
        self.check([("end", "a", [("b", "c d e"), ("f", None)]), ("text", "g")], "</a\nb=\"c d e\"f>g")

    def test_values_without_quotes(self):
        for value in ("c", "/", "=", "c/", "c\"", "c'", "\"", "<", "<b", "&", "&l", "&#1", "c&", "&x;"):
            page = "&;\"" if value == "\"" else value
            if value != "\"":
                self.check([tag(("b", value)), ("text", "d")], "<a\nb=" + page + ">d")
                self.check([tag(("b", value), ("c", value)), ("text", "d")], "<a\nb=" + page + "\nc=" + page + ">d")
            self.check([tag(("b", value + "\"'"))], "<a\nb=" + page + "\"'")

    def test_values_in_quotes(self):
        self.check([tag(("b", "c d")), ("text", "e")], "<a\nb=\"c d\">e")
        self.check([tag(("b", "c\nd")), ("text", "e")], "<a\nb=\"c\nd\">e")
        self.check([tag(("b", "c>d")), ("text", "e")], "<a\nb=\"c>d\">e")
        self.check([tag(("b", "c \"d\"")), ("text", "e")], "<a\nb='c \"d\"'>e")
        self.check([tag(("b", "it's so")), ("text", "e")], "<a\nb=\"it's so\">e")
        self.check([tag(("b", " \"'")), ("text", "e")], "<a\nb=&#32;\"'>e")
        self.check([tag(("b", "  \"'")), ("text", "e")], "<a\nb=\"  &#34;'\">e")
        self.check([tag(("b", "> \"\"'")), ("text", "e")], "<a\nb='> \"\"&#39;'>e")
        self.check([tag(("b", "\n>\"\"''''")), ("text", "e")], "<a\nb=&#10;&gt;\"\"''''>e")

    def test_a_quote_at_the_beginning(self):
        self.check([tag(("b", "\"")), ("text", "c")], "<a\nb=&;\">c")
        self.check([tag(("b", "'")), ("text", "c")], "<a\nb=\"'\">c")
        self.check([tag(("b", "\"'")), ("text", "c")], "<a\nb=&;\"'>c")
        self.check([tag(("b", "'\"")), ("text", "c")], "<a\nb=&;'\">c")
        self.check([tag(("b", "\""))], "<a\nb='\"")
        self.check([tag(("b", "'"))], "<a\nb=\"'")
        self.check([tag(("b", "\"'"))], "<a\nb=&;\"'")

    def test_references_in_values(self):
        self.check([tag(("b", "&lt;"))], "<a\nb=&&;lt;")
        self.check([tag(("b", "&#34;"))], "<a\nb=&#&;34;")
        self.check([tag(("b", "&; ")), ("text", "c")], "<a\nb=\"&&;; \">c")
        self.check([tag(("b", "<b></b><!--"))], "<a\nb=\"<b></b><!--")
        self.check([tag(("b", "&lt"), ("c", "&l"))], "<a\nb=&lt\nc=&l")


class CommentsAndRawTextsTest(WritingTest):
    def test_comments(self):
        self.check([("comment", "")], "<!--")
        self.check([("comment", ""), ("comment", "")], "<!----><!--")
        self.check([("comment", "a"), ("text", "b")], "<!--a-->b")
        self.check([("comment", "a-"), ("text", "b")], "<!--a--->b")
        self.check([("comment", "a--"), ("text", "b")], "<!--a---->b")
        self.check([("comment", "a--")], "<!--a--")
        self.check([("comment", "->&lt;<b>"), ("text", "b")], "<!--->&lt;<b>-->b")

    def test_raw_texts(self):
        script, end = ("tag", "script", []), ("end", "script", [])
        self.check([script, ("raw", "a")], "<script>a")
        self.check([script, ("raw", "a"), end, ("text", "b")], "<script>a</script>b")
        self.check([script, ("raw", "&lt;<b></script"), end, ("text", "b")], "<script>&lt;<b></script</script>b")
        self.check([script, end, ("text", "b")], "<script></script>b")

    def test_the_last_end_tag_of_a_raw_text(self):
        script, end = ("tag", "script", []), ("end", "script", [])
        self.check([script, end], "<script></script\n")
        self.check([script, ("raw", "a"), end], "<script>a</script\n")
        self.check([("end", "script", [])], "</script")
        self.check([("tag", "style", []), ("end", "style", [("=", None)])], "<style></style\n=")
        self.check([("tag", "style", []), ("end", "style", [("b", "c"), ("d", "")])], "<style></style\nb=c\nd=\"")


class EveryPageTest(unittest.TestCase):
    def test_no_page_of_the_same_tokens_is_smaller(self):
        least = {}
        for page in itertools.chain(all_pages(), map("".join, itertools.product(CHARACTERS, repeat=2))):
            tokens = read(page)
            key = repr(tokens)
            if key not in least:
                least[key] = shortest_page(tokens)
                self.assertEqual(read(least[key]), tokens, page)
            found = least[key]
            self.assertLessEqual((len(found), found), (len(page), page))

    def test_all_texts_and_values_of_two_or_three_characters(self):
        for text in map("".join, itertools.product("<&;/!-ab# \"'>", repeat=3)):
            for tokens in ([("text", text)], [tag(("b", text)), ("comment", "")]):
                page = shortest_page(tokens)
                self.assertEqual(read(page), tokens)
        for text in map("".join, itertools.product(CHARACTERS, repeat=2)):
            for tokens in ([("text", text)], [tag(("b", text)), ("comment", "")], [tag(("b", text))]):
                page = shortest_page(tokens)
                self.assertEqual(read(page), tokens)


class Maker:
    """Makes lists of tokens that are hard to write, and sometimes not possible. The same ones in each run."""

    def __init__(self, seed):
        self.random = random.Random(seed)

    def text(self, pieces, low, high):
        return "".join(self.random.choice(pieces) for _ in range(self.random.randint(low, high)))

    def attribute(self):
        key = self.text(["a", "=", "\"", "'", "&", "<", "-", "1"], 1, 2)
        if self.random.random() < 0.1:
            key = self.text(["a", "/", " ", ">"], 0, 2)
        if self.random.random() < 0.3:
            return (key, None)
        return (key, self.text(
            ["a", "\"", "'", "&", "lt", ";", "#", "34", " ", "\n", ">", "=", "<", "/", "&lt;"], 0, 4))

    def attributes(self):
        return [self.attribute() for _ in range(self.random.choice([0, 0, 1, 1, 2, 3]))]

    def raw(self):
        return ("raw", self.text(["a", "<", "/", "</script", "</style", ">", " ", "s"], 0, 3))

    def token(self):
        kind = self.random.randint(0, 5)
        if kind == 0:
            least = 0 if self.random.random() < 0.1 else 1
            return ("text", self.text(["a", "<", "/", "!", "-", "&", "lt", ";", "#", "60", "b", ">", " "], least, 6))
        if kind == 1:
            return ("comment", self.text(["-", "a", ">", "!", "<", "--"], 0, 4))
        if kind == 2:
            return self.raw()
        name = self.random.choice(["a", "a", "B-1", "script", "style", "scripts", "1", ""])
        return (self.random.choice(["tag", "tag", "end"]), name, self.attributes())

    def tokens(self):
        found = [self.token() for _ in range(self.random.randint(1, 4))]
        if self.random.random() < 0.4:
            name = self.random.choice(["script", "style"])
            inside = [("tag", name, self.attributes()), self.raw(), ("end", name, self.attributes())]
            found = inside[:self.random.randint(1, 3)] + found[:1]
        return found


class SearchTest(unittest.TestCase):
    def test_the_page_is_the_one_that_a_search_finds(self):
        maker = Maker(116)
        possible = 0
        for _ in range(800):
            tokens = maker.tokens()
            page = search_page(tokens)
            self.assertEqual(is_possible(tokens), page is not None, tokens)
            if page is None:
                with self.assertRaises(Impossible) as caught:
                    shortest_page(tokens)
                least = min(at for at in range(len(tokens)) if search_page(tokens[:at + 1]) is None)
                self.assertEqual(caught.exception.at, least, tokens)
            else:
                possible += 1
                self.assertEqual(shortest_page(tokens), page, tokens)
        self.assertGreater(possible, 150)


class ImpossibleTest(unittest.TestCase):
    def check(self, tokens, at):
        with self.assertRaises(Impossible) as caught:
            shortest_page(tokens)
        self.assertEqual(caught.exception.at, at, tokens)
        self.assertFalse(is_possible(tokens[:at + 1]))
        self.assertTrue(is_possible(tokens[:at]))

    def test_a_fault_in_the_first_token(self):
        for token in (
            ("text", ""), ("raw", "a"), ("comment", "-->"), ("tag", "", []), ("tag", "1", []), ("end", "a_", []),
            ("tag", "a", [("", None)]), ("end", "a", [("b=", "c")]), ("tag", "a", [("b", "c"), (">", None)]),
        ):
            self.check([token], 0)
            self.check([token, ("text", "a")], 0)
            self.check([token, ("text", ""), ("text", "")], 0)

    def test_a_fault_in_a_later_token(self):
        self.check([("text", "a"), ("text", "b")], 1)
        self.check([tag(), ("text", "a"), ("comment", "-->")], 2)
        self.check([tag(), ("text", "a"), ("text", ""), ("text", "b")], 2)
        self.check([tag(), tag(), tag(), ("tag", "a", [("/", None)]), ("raw", "b")], 3)

    def test_a_token_that_is_a_fault_only_behind_another_one(self):
        script, style = ("tag", "script", []), ("tag", "style", [])
        self.check([script, ("text", "a")], 1)
        self.check([script, ("comment", "a")], 1)
        self.check([script, tag()], 1)
        self.check([script, ("end", "style", [])], 1)
        self.check([script, ("raw", "")], 1)
        self.check([script, ("raw", "</script>")], 1)
        self.check([script, ("raw", "a"), ("raw", "b")], 2)
        self.check([script, ("raw", "a"), ("end", "a", [])], 2)
        self.check([style, ("raw", "a"), ("end", "script", [])], 2)
        self.check([style, ("raw", "a"), ("text", "b"), ("raw", "c")], 2)
        self.check([style, ("raw", "a"), ("end", "style", []), ("raw", "c")], 3)
        self.check([style, ("end", "style", []), ("end", "style", []), ("text", "a"), ("text", "b")], 4)


class ArgumentsTest(unittest.TestCase):
    def test_the_argument_stays_and_equal_calls_give_equal_pages(self):
        for tokens in (
            [("text", "<b"), ("tag", "a", [("b", None), ("c", "d e"), ("f", "")]), ("comment", "g")],
            [("tag", "style", []), ("raw", "a"), ("end", "style", [])],
        ):
            kept = copy.deepcopy(tokens)
            page = shortest_page(tokens)
            self.assertEqual(tokens, kept)
            self.assertEqual(shortest_page(tokens), page)

    def test_long_pages(self):
        for page in (
            "a" * 20000, "<a>" * 6666, "<" * 20000, "&lt;" * 5000, "<!--a-->" * 2500, "<a" + " b" * 9999,
            "<a b=\"" + "'" * 19994, "<a b='" + "\" " * 9997, "<style>x</style>" * 1250, "&&;;" * 5000,
            "<script>" + "<" * 19992,
        ):
            tokens = read(page)
            found = shortest_page(tokens)
            self.assertLessEqual(len(found), len(page))
            self.assertTrue(read(found) == tokens, page[:20])


if __name__ == "__main__":
    unittest.main()
