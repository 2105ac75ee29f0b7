"""Point 117: the tree of tokens."""

import copy
import itertools
import unittest

from samepage.pages.tokens import read
from samepage.pages.trees import tree
from tests.model import model_tree

EMPTY = ["br", "hr", "img", "meta", "link", "wbr"]


def element(name, *nodes, attributes=()):
    return ("element", name, list(attributes), list(nodes))


def text(string):
    return ("text", string)


class TreeTest(unittest.TestCase):
    def check(self, page, *nodes):
        self.assertEqual(tree(read(page)), list(nodes), page)

    def test_nothing(self):
        self.check("")
        self.assertEqual(tree([]), [])

    def test_nodes_without_elements(self):
        self.check("a", text("a"))
        self.check("a<!--b-->c", text("a"), ("comment", "b"), text("c"))
        self.check("<!---->", ("comment", ""))

    def test_nested_elements(self):
        self.check("<a></a>", element("a"))
        self.check("<a>b</a>c", element("a", text("b")), text("c"))
        self.check("<a><b>c</b>d</a>e", element("a", element("b", text("c")), text("d")), text("e"))
        self.check("<a></a><a></a>", element("a"), element("a"))
        self.check("<a><a>b</a>c</a>d", element("a", element("a", text("b")), text("c")), text("d"))
        self.check("<a><!--b--></a>", element("a", ("comment", "b")))

    def test_attributes(self):
        self.check("<a b c=1 d=''>e</a f=2>", element(
            "a", text("e"), attributes=[("b", None), ("c", "1"), ("d", "")]))

    def test_end_tags_that_close_several_elements(self):
        self.check("<a><b><c>d</a>e", element("a", element("b", element("c", text("d")))), text("e"))
        self.check("<a><b><a>c</b>d", element("a", element("b", element("a", text("c"))), text("d")))
        self.check("<a><b></a></b>c", element("a", element("b")), text("c"))
        self.check("<a><b><b><c></b>d", element("a", element("b", element("b", element("c")), text("d"))))

    def test_end_tags_without_an_element(self):
        self.check("</a>b", text("b"))
        self.check("<a></b>c</a>", element("a", text("c")))
        self.check("<a></a></a>b", element("a"), text("b"))
        self.check("<a></A>b", element("a", text("b")))
        self.check("a</b>c", text("a"), text("c"))

    def test_empty_elements(self):
        for name in EMPTY:
            self.check("<" + name + ">a", element(name), text("a"))
            self.check("<b><" + name + " c=1>a</b>", element("b", element(name, attributes=[("c", "1")]), text("a")))
            self.check("<" + name + "></" + name + ">a", element(name), text("a"))
            self.check("<b></" + name + ">a", element("b", text("a")))
            self.check("<" + name + "><" + name + ">", element(name), element(name))

    def test_names_that_are_not_empty_elements(self):
        for name in ("BR", "Hr", "b", "images", "metas", "brr", "input", "p"):
            self.check("<" + name + ">a", element(name, text("a")))

    def test_elements_open_at_the_end(self):
        self.check("<a", element("a"))
        self.check("<a><b>c", element("a", element("b", text("c"))))
        self.check("<a>b</a", element("a", text("b")))

    def test_raw_texts(self):
        self.check("<script>a<b></script>c", element("script", ("raw", "a<b>")), text("c"))
        self.check("<b><style>a", element("b", element("style", ("raw", "a"))))
        self.check("<script></script>c", element("script"), text("c"))

    def test_every_row_of_some_tokens(self):
        signs = [
            ("tag", "a", []), ("tag", "b", [("c", None)]), ("tag", "br", []), ("end", "a", []), ("end", "b", [("c", "d")]),
            ("end", "br", []), ("comment", "e"), ("text", "f"),
        ]
        for count in range(6):
            for tokens in itertools.product(signs, repeat=count):
                self.assertEqual(tree(list(tokens)), model_tree(tokens), tokens)

    def test_kinds_of_the_answer(self):
        nodes = tree(read("<a b=1>c<!--d-->"))
        self.assertIs(type(nodes), list)
        self.assertIs(type(nodes[0]), tuple)
        self.assertIs(type(nodes[0][2]), list)
        self.assertIs(type(nodes[0][2][0]), tuple)
        self.assertIs(type(nodes[0][3]), list)

    def test_long_pages(self):
        nodes = tree(read("<a>" * 6666))
        for _ in range(6666):
            (kind, name, attributes, nodes), = nodes
            self.assertEqual((kind, name, attributes), ("element", "a", []))
        self.assertEqual(nodes, [])
        nodes = tree(read("<a>" * 3000 + "</b>" * 2750))
        for _ in range(3000):
            (_, _, _, nodes), = nodes
        self.assertEqual(nodes, [])
        nodes = tree(read("<b>" + "<a>" * 6000 + "</b>c"))
        self.assertEqual([node[:2] for node in nodes], [("element", "b"), ("text", "c")])


class AnswersTest(unittest.TestCase):
    def test_the_argument_and_later_answers_stay(self):
        tokens = read("<a b=1>c<d></a><br e>f</g>")
        kept = copy.deepcopy(tokens)
        nodes = tree(tokens)
        again = copy.deepcopy(nodes)
        self.assertEqual(tokens, kept)
        nodes[0][2].append(("x", None))
        nodes[0][3].clear()
        nodes[1][2].clear()
        nodes[1][3].append(("text", "x"))
        nodes.clear()
        self.assertEqual(tokens, kept)
        self.assertEqual(tree(tokens), again)

    def test_the_lists_of_an_answer_are_not_shared(self):
        attributes = [("b", None)]
        nodes = tree([("tag", "br", attributes), ("tag", "hr", attributes)])
        nodes[0][2].append(("x", None))
        nodes[0][3].append(("text", "x"))
        self.assertEqual(nodes[1], element("hr", attributes=[("b", None)]))
        self.assertEqual(attributes, [("b", None)])


if __name__ == "__main__":
    unittest.main()
