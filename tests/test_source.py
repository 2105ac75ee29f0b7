"""Points 301, 302 and 305 to 308: the source of templates, read and written."""

import copy
import itertools
import random
import unittest

from samepage import errors
from samepage.errors import BadDirective, Misplaced, SamepageError, TakenName, TooDeep, Unclosed
from samepage.templates.source import parse_template, write_template
from tests.common import CHARACTERS
from tests.model_templates import Fault, model_parse, without_indexes
from tests.templates import loose_source, sources

HEAD = "{shape}"
WORDS = ["data", "else", "end", "for", "if", "in", "part", "shape", "slot", "text", "truth", "use"]

# An opening directive of each kind, with its node when nothing stands in it and its index is 0.
OPENING = [
    ("{if a}", ("if", ("", "a"), [], [], 0)),
    ("{for r in a}", ("for", "r", ("", "a"), [], 0)),
    ("{use b}", ("use", "b", [], 0)),
]


def body_of(text):
    """The nodes of a body behind `{shape}`, with the indexes that they have in the body alone."""
    shape, parts, body = parse_template(HEAD + text)
    assert (shape, parts) == ([], [])
    return moved(body, -len(HEAD))


def moved(nodes, by):
    """The nodes with another beginning of their indexes."""
    return [
        node if node[0] == "text" else
        tuple(moved(part, by) if isinstance(part, list) else part for part in node[:-1]) + (node[-1] + by,)
        for node in nodes
    ]


def alike(template):
    """The template without its indexes."""
    shape, parts, body = template
    return shape, [(name, without_indexes(nodes)) for name, nodes in parts], without_indexes(body)


class ShapesTest(unittest.TestCase):
    def check(self, source, shape):
        self.assertEqual(parse_template(source), (shape, [], []))

    def test_shapes(self):
        self.check("{shape}", [])
        self.check("{shape title text}", [("title", "text")])
        self.check("{shape title text, rows [name text, paid truth]}", [
            ("title", "text"), ("rows", [("name", "text"), ("paid", "truth")])])
        self.check("{shape a []}", [("a", [])])
        self.check("{shape shapes data}", [("shapes", "data")])

    def test_example(self):
        self.assertEqual(parse_template("{shape title text}<b>{title}</b>"), (
            [("title", "text")], [], [("text", "<b>"), ("hole", ("", "title"), 21), ("text", "</b>")]))


class TextsTest(unittest.TestCase):
    def check(self, text, *nodes):
        self.assertEqual(body_of(text), list(nodes), text)

    def test_the_empty_body(self):
        self.check("")

    def test_texts(self):
        self.check("a", ("text", "a"))
        self.check(" a\nb ", ("text", " a\nb "))
        self.check("\n", ("text", "\n"))
        self.check("shape", ("text", "shape"))
        for char in CHARACTERS:
            if char != "{":
                self.check(char, ("text", char))
                self.check(char + char, ("text", char + char))
                self.check("x" + char + "y{a}" + char, ("text", "x" + char + "y"), ("hole", ("", "a"), 3), ("text", char))

    def test_doubled_braces(self):
        self.check("{{", ("text", "{"))
        self.check("{{{{", ("text", "{{"))
        self.check("{{a}", ("text", "{a}"))
        self.check("{{{{a}}", ("text", "{{a}}"))
        self.check("a{{b{{{{c{{", ("text", "a{b{{c{"))
        self.check("{{{a}", ("text", "{"), ("hole", ("", "a"), 2))
        self.check("{{{{{a}{{", ("text", "{{"), ("hole", ("", "a"), 4), ("text", "{"))
        self.check("x{{{a}{{{b}", ("text", "x{"), ("hole", ("", "a"), 3), ("text", "{"), ("hole", ("", "b"), 8))
        self.check("{{end}", ("text", "{end}"))

    def test_closing_braces(self):
        self.check("}", ("text", "}"))
        self.check("}}a}", ("text", "}}a}"))
        self.check("{a}}", ("hole", ("", "a"), 0), ("text", "}"))
        self.check("}{a}", ("text", "}"), ("hole", ("", "a"), 1))
        self.check("{{}}", ("text", "{}}"))

    def test_texts_are_whole(self):
        for row in itertools.product(["a", "{{", "}", " "], repeat=4):
            text = "".join(row)
            self.check(text, ("text", text.replace("{{", "{")))


class DirectivesTest(unittest.TestCase):
    def check(self, text, *nodes):
        self.assertEqual(body_of(text), list(nodes), text)

    def test_holes(self):
        self.check("{title}", ("hole", ("", "title"), 0))
        self.check("{row.title}", ("hole", ("row", "title"), 0))
        self.check("{a}{b}", ("hole", ("", "a"), 0), ("hole", ("", "b"), 3))
        self.check("{texts}", ("hole", ("", "texts"), 0))
        self.check("{" + "z" * 16 + "." + "y" * 16 + "}", ("hole", ("z" * 16, "y" * 16), 0))
        self.check("{parts.ends}", ("hole", ("parts", "ends"), 0))

    def test_data(self):
        self.check("{data a}", ("data", ("", "a"), 0))
        self.check("{data row.a}", ("data", ("row", "a"), 0))

    def test_conditions(self):
        self.check("{if a}{end}", ("if", ("", "a"), [], [], 0))
        self.check("{if row.a}x{end}", ("if", ("row", "a"), [("text", "x")], [], 0))
        self.check("{if a}x{else}y{end}", ("if", ("", "a"), [("text", "x")], [("text", "y")], 0))
        self.check("{if a}{else}y{end}", ("if", ("", "a"), [], [("text", "y")], 0))

    def test_else_with_nothing_behind_it(self):
        self.check("{if a}x{else}{end}", ("if", ("", "a"), [("text", "x")], [], 0))
        self.check("{if a}{else}{end}", ("if", ("", "a"), [], [], 0))

    def test_loops(self):
        self.check("{for r in a}{end}", ("for", "r", ("", "a"), [], 0))
        self.check("{for r in s.a}{r.b}{end}", ("for", "r", ("s", "a"), [("hole", ("r", "b"), 14)], 0))

    def test_uses(self):
        self.check("{use a}{end}", ("use", "a", [], 0))
        self.check("{use a}x{b}{end}", ("use", "a", [("text", "x"), ("hole", ("", "b"), 8)], 0))

    def test_each_in_each_other(self):
        inner = [("x", ("text", "x")), ("{a}", ("hole", ("", "a"), 0)), ("{data a}", ("data", ("", "a"), 0))]
        inner += [(text + "{end}", node) for text, node in OPENING]
        for opening, node in OPENING:
            for one, other in itertools.product(inner, repeat=2):
                at = len(opening)
                nodes = [one[1]] if one[1][0] == "text" else moved([one[1]], at)
                if one[1] == other[1] == ("text", "x"):
                    nodes = [("text", "xx")]
                else:
                    nodes += moved([other[1]], at + len(one[0]))
                row = node.index([])
                self.check(opening + one[0] + other[0] + "{end}", node[:row] + (nodes,) + node[row + 1:])

    def test_else_belongs_to_the_innermost_condition(self):
        self.check("{if a}{if b}x{else}y{end}{else}z{end}", (
            "if", ("", "a"), [("if", ("", "b"), [("text", "x")], [("text", "y")], 6)], [("text", "z")], 0))
        self.check("{if a}x{else}{if b}{else}y{end}{end}", (
            "if", ("", "a"), [("text", "x")], [("if", ("", "b"), [], [("text", "y")], 13)], 0))

    def test_texts_around_an_end(self):
        self.check("x{if a}y{end}z", ("text", "x"), ("if", ("", "a"), [("text", "y")], [], 1), ("text", "z"))

    def test_indexes(self):
        source = "{shape a text, r [b text]}{part p}-{slot}{end}ab{{{a}{for s in r}\n{if s.b}{s.b}{else}{data a}{end}{end}"
        source += "{use p}{a}{end}"
        shape, parts, body = parse_template(source)
        found = []
        for name, nodes in parts + [("", body)]:
            found += self.indexes(nodes)
        for at, word in found:
            self.assertTrue(source[at:].startswith("{" + word), (at, word))
        self.assertEqual([at for at, _ in found], [35, 50, 53, 66, 74, 85, 103, 110])

    def indexes(self, nodes):
        """The index of each node and how its directive begins, in order."""
        found = []
        for node in nodes:
            if node[0] != "text":
                found.append((node[-1], {"hole": ""}.get(node[0], node[0])))
                for part in node:
                    if isinstance(part, list):
                        found += self.indexes(part)
        return found


class PartsTest(unittest.TestCase):
    def test_parts(self):
        self.assertEqual(parse_template(HEAD + "{part a}x{end}{part b}{end}y"), (
            [], [("a", [("text", "x")]), ("b", [])], [("text", "y")]))

    def test_parts_without_content_and_the_empty_body(self):
        self.assertEqual(parse_template(HEAD + "{part a}{end}"), ([], [("a", [])], []))

    def test_slots(self):
        self.assertEqual(parse_template(HEAD + "{part a}{slot}x{slot}{end}"), (
            [], [("a", [("slot", 15), ("text", "x"), ("slot", 22)])], []))
        for opening, node in OPENING:
            shape, parts, body = parse_template(HEAD + "{part c}" + opening + "{slot}{end}{end}")
            row = node.index([])
            wanted = node[:row] + ([("slot", 15 + len(opening))],) + node[row + 1:-1] + (15,)
            self.assertEqual(parts, [("c", [wanted])])

    def test_the_body_begins_behind_the_last_part(self):
        for text in (" ", "\n", "x", "}", "{{", " {part", "end"):
            text = text.replace("{part", "part")
            wanted = [("text", text.replace("{{", "{"))]
            self.assertEqual(parse_template(HEAD + text), ([], [], wanted))
            self.assertEqual(parse_template(HEAD + "{part a}{end}" + text), ([], [("a", [])], wanted))

    def test_parts_keep_their_order(self):
        source = HEAD + "{part b}{end}{part a}{use b}{end}{end}{part c}{end}"
        self.assertEqual([name for name, _ in parse_template(source)[1]], ["b", "a", "c"])


class ErrorsTest(unittest.TestCase):
    def check(self, error, source, at):
        with self.assertRaises(SamepageError) as caught:
            parse_template(source)
        self.assertEqual((type(caught.exception), caught.exception.at), (error, at), source)

    def bad(self, text):
        """The text begins no directive: at the beginning of the body, behind a text, and in each other directive."""
        self.check(BadDirective, HEAD + text, 7)
        self.check(BadDirective, HEAD + "ab" + text, 9)
        self.check(BadDirective, HEAD + "{{" + text, 9)
        self.check(BadDirective, HEAD + "{part c}" + text, 15)
        self.check(BadDirective, HEAD + text + "{end}", 7)
        for opening, _ in OPENING:
            self.check(BadDirective, HEAD + opening + text, 7 + len(opening))


class BadDirectiveTest(ErrorsTest):
    def test_the_source_does_not_begin_with_a_shape(self):
        for source in (
            "", "a", " {shape}", "\n{shape}", "{{shape}", "{{", "{", "}", "shape}", "{shape", "{a}", "{end}", "{else}",
            "{slot}", "{part a}{end}", "{use a}{end}", "{if a}", "{for a in b}", "{data a}", "{shape }", "{shape  a text}",
            "{ shape}", "{Shape}", "{SHAPE a text}", "{shapes}", "{shape a}", "{shape a text,}", "{shape a text }",
            "{shape\na text}", "{shape a text{shape}", "{shape data text}", "{shape a [}", "{shape a []", "x{shape}",
            "xshape}", " shape}", "xshape a text}y", "}shape}",
        ):
            self.check(BadDirective, source, 0)

    def test_also_if_something_else_is_wrong(self):
        self.check(BadDirective, "{shape a text, a text, b}", 0)
        self.check(BadDirective, "{end}{shape}", 0)
        self.check(BadDirective, "{{{shape}", 0)

    def test_shapes_that_are_nested_too_deep(self):
        self.assertEqual(len(parse_template("{shape " + "a [" * 5 + "]" * 5 + "}")[0]), 1)
        self.check(BadDirective, "{shape " + "a [" * 6 + "]" * 6 + "}", 0)

    def test_no_closing_brace(self):
        for text in ("{", "{a", "{a.b", "{if a", "{end", "{slot", "{shape", "{part a", "{use a", "{data a", "{for r in a"):
            self.bad_at_the_end(text)

    def bad_at_the_end(self, text):
        for before in ("", "x", "{{", "}", "{a}", "{if a}", "{use a}{end}", "{part b}{end}"):
            self.check(BadDirective, HEAD + before + text, len(HEAD + before))

    def test_nothing_and_spaces(self):
        for text in ("{}", "{ }", "{\n}", "{  }", "{ a}", "{a }", "{\na}", "{a b}", "{ if a}", "{if a }", "{if  a}", "{if\na}"):
            self.bad(text)
        for text in ("{ end}", "{end }", "{else }", "{ else}", "{slot }", "{ slot}", "{data  a}", "{data a }", "{ data a}"):
            self.bad(text)
        for text in ("{for  r in a}", "{for r  in a}", "{for r in  a}", "{for r in a }", "{ for r in a}", "{for r\nin a}"):
            self.bad(text)
        for text in ("{use  a}", "{use a }", "{ use a}", "{part  a}", "{part a }", "{ part a}", "{use\na}", "{part\na}"):
            self.bad(text)
        for text in ("{shape }", "{ shape}", "{shape  }", "{shape\n}", "{shape  a text}", "{shape a text }"):
            self.bad(text)

    def test_spaces_that_are_missing(self):
        for text in ("{if}", "{data}", "{use}", "{part}", "{for}", "{for r}", "{for r in}", "{for r a}", "{for in a}"):
            self.bad(text)
        for text in ("{forr in a}", "{for rin a}", "{for r ina}", "{if a b}", "{use a b}", "{part a b}", "{data a b}"):
            self.bad(text)
        for text in ("{end a}", "{else a}", "{slot a}", "{end end}", "{if if a}", "{for r in a b}", "{for r s in a}"):
            self.bad(text)
        # Without its space, this is a hole.
        self.assertEqual(body_of("{ifa}{dataa}"), [("hole", ("", "ifa"), 0), ("hole", ("", "dataa"), 5)])

    def test_capital_letters(self):
        for text in ("{A}", "{aB}", "{IF a}", "{If a}", "{if A}", "{END}", "{End}", "{Else}", "{SLOT}", "{DATA a}", "{data A}"):
            self.bad(text)
        for text in ("{For r in a}", "{for R in a}", "{for r IN a}", "{for r in A}", "{Use a}", "{use A}", "{Part a}", "{part A}"):
            self.bad(text)
        self.bad("{Shape}")
        self.bad("{r.A}")

    def test_names_that_are_none(self):
        for name in WORDS + ["1", "a1", "a-b", "a_b", "z" * 17, "", "a.b.c", ".", "a.", ".a", "..", "a..b"]:
            for text in ("{if " + name + "}", "{data " + name + "}", "{for r in " + name + "}"):
                self.bad(text)
        for name in WORDS + ["1", "a1", "z" * 17, "", "a.b"]:
            for text in ("{use " + name + "}", "{part " + name + "}", "{for " + name + " in a}"):
                self.bad(text)
        for name in WORDS:
            if name not in ("else", "end", "slot", "shape"):
                self.bad("{" + name + "}")
            self.bad("{" + name + ".a}")
            self.bad("{a." + name + "}")
            self.bad("{" + name + " " + name + "}")
        for text in ("{a.b.c}", "{a.}", "{.a}", "{.}", "{" + "z" * 17 + "}", "{a." + "z" * 17 + "}", "{1}", "{a+b}", "{#}", "{/if}"):
            self.bad(text)

    def test_braces_in_directives(self):
        self.bad("{a{b}")
        self.bad("{a{{b}")
        self.bad("{if {a}")
        self.bad("{a\n{b}")
        self.check(BadDirective, HEAD + "{{{", 9)
        self.check(BadDirective, HEAD + "{{{{{", 11)
        self.check(BadDirective, HEAD + "a{ {{", 8)

    def test_shapes_that_are_not_written_as_one(self):
        for text in ("{shape a}", "{shape a text,}", "{shape a text,b text}", "{shape A text}", "{shape a [}", "{shape []}"):
            self.bad(text)

    def test_each_other_character_in_a_directive(self):
        for directive in ("{if row.title}", "{for row in rows}", "{data title}", "{use list}", "{else}"):
            for at in range(1, len(directive)):
                for char in "  .A1}{":
                    self.against_model(HEAD + "{if a}" + directive[:at] + char + directive[at:] + "{end}{end}")
                    self.against_model(HEAD + "{if a}" + directive[:at] + char + directive[at + 1:] + "{end}{end}")
                self.against_model(HEAD + "{if a}" + directive[:at] + directive[at + 1:] + "{end}{end}")

    def against_model(self, source):
        try:
            wanted = model_parse(source)
        except Fault as fault:
            self.check(getattr(errors, fault.args[0]), source, fault.args[1])
        else:
            self.assertEqual(parse_template(source), wanted, source)


class TakenNameTest(ErrorsTest):
    def test_fields(self):
        self.check(TakenName, "{shape a text, a text}", 0)
        self.check(TakenName, "{shape a text, b [c text, c truth]}", 0)
        self.check(TakenName, "{shape a [], b text, a []}x{a}", 0)

    def test_parts(self):
        self.check(TakenName, HEAD + "{part a}{end}{part a}{end}", 20)
        self.check(TakenName, HEAD + "{part a}{end}{part b}{end}{part a}{end}", 33)
        self.check(TakenName, HEAD + "{part a}{end}{part a}", 20)

    def test_a_part_may_have_the_name_of_a_field_or_a_variable(self):
        source = "{shape a text}{part a}{for a in a}{end}{end}{use a}{end}"
        self.assertEqual([name for name, _ in parse_template(source)[1]], ["a"])


class MisplacedTest(ErrorsTest):
    def test_else(self):
        self.check(Misplaced, HEAD + "{else}", 7)
        self.check(Misplaced, HEAD + "x{else}", 8)
        self.check(Misplaced, HEAD + "{if a}{end}{else}", 18)
        self.check(Misplaced, HEAD + "{part a}{end}{else}", 20)
        self.check(Misplaced, HEAD + "{if a}{else}{end}{else}{end}", 24)

    def test_a_second_else(self):
        self.check(Misplaced, HEAD + "{if a}{else}{else}{end}", 19)
        self.check(Misplaced, HEAD + "{if a}x{else}y{else}z{end}", 21)
        self.check(Misplaced, HEAD + "{if a}{else}{if b}{else}{end}{else}{end}", 36)

    def test_else_of_others(self):
        self.check(Misplaced, HEAD + "{for r in a}{else}{end}", 19)
        self.check(Misplaced, HEAD + "{use a}{else}{end}", 14)
        self.check(Misplaced, HEAD + "{part a}{else}{end}", 15)
        for opening, _ in OPENING[1:]:
            self.check(Misplaced, HEAD + "{if a}" + opening + "{else}{end}{end}", 13 + len(opening))
            self.check(Misplaced, HEAD + opening + "{if a}{end}{else}{end}", 18 + len(opening))
        self.check(Misplaced, HEAD + "{part a}{if a}{end}{else}{end}", 26)

    def test_end(self):
        self.check(Misplaced, HEAD + "{end}", 7)
        self.check(Misplaced, HEAD + "x{end}", 8)
        self.check(Misplaced, HEAD + "{part a}{end}{end}", 20)
        for opening, _ in OPENING:
            self.check(Misplaced, HEAD + opening + "{end}{end}", 12 + len(opening))

    def test_slot(self):
        self.check(Misplaced, HEAD + "{slot}", 7)
        self.check(Misplaced, HEAD + "{part a}{end}{slot}", 20)
        for opening, _ in OPENING:
            self.check(Misplaced, HEAD + opening + "{slot}{end}", 7 + len(opening))
            self.check(Misplaced, HEAD + "{part a}{slot}{end}" + opening + "{slot}{end}", 26 + len(opening))

    def test_part(self):
        for before in ("x", "\n", "{{", "{a}", "{data a}", "{if a}{end}", "{use a}{end}", "{if a}", "{use a}", "{for r in a}",
                       "{part b}", "{part b}x", "{part b}{use a}", "{part b}{end}x", "{part b}{end}{a}", "{if a}{else}"):
            self.check(Misplaced, HEAD + before + "{part c}{end}", len(HEAD + before))

    def test_shape(self):
        for before in ("", "x", "{a}", "{if a}", "{use a}", "{for r in a}", "{part b}", "{part b}{end}", "{if a}{end}"):
            for shape in ("{shape}", "{shape a text}", "{shape a [b data]}"):
                self.check(Misplaced, HEAD + before + shape, len(HEAD + before))


class UnclosedTest(ErrorsTest):
    def test_each(self):
        for opening, _ in OPENING + [("{part c}", None)]:
            for more in ("", "x", "{{", "{a}", "{if a}{end}", "{use c}{a}{end}y"):
                self.check(Unclosed, HEAD + opening + more, 7)

    def test_the_innermost_one(self):
        for one, _ in OPENING + [("{part c}", None)]:
            for other, _ in OPENING:
                self.check(Unclosed, HEAD + one + "x" + other, 8 + len(one))
                self.check(Unclosed, HEAD + one + "x" + other + "y{end}", 7)
                self.check(Unclosed, HEAD + one + other + "{end}" + other, 12 + len(one + other))

    def test_else_closes_nothing(self):
        self.check(Unclosed, HEAD + "{if a}{else}", 7)
        self.check(Unclosed, HEAD + "{if a}x{else}y{use b}z", 21)

    def test_behind_a_body(self):
        self.check(Unclosed, HEAD + "{part c}{end}x{if a}", 21)


class TooDeepTest(ErrorsTest):
    def test_twelve_others(self):
        for opening, _ in OPENING:
            for inner, _ in OPENING:
                twelve = HEAD + opening * 12
                self.assertEqual(len(parse_template(twelve + "{end}" * 12)[2]), 1)
                self.assertEqual(len(parse_template(twelve + "x{a}{data a}" + "{end}" * 12)[2]), 1)
                self.check(TooDeep, twelve + inner + "{end}" * 13, len(twelve))
                self.check(TooDeep, twelve + inner, len(twelve))
                self.check(TooDeep, HEAD + opening * 11 + inner * 2, len(HEAD + opening * 11 + inner))

    def test_a_part_among_them(self):
        for opening, _ in OPENING:
            eleven = HEAD + "{part c}" + opening * 11
            self.assertEqual(parse_template(eleven + "{slot}" + "{end}" * 12)[2], [])
            self.check(TooDeep, eleven + opening, len(eleven))

    def test_else_is_no_other(self):
        twelve = HEAD + "{if a}{else}" * 12
        self.assertEqual(len(parse_template(twelve + "{end}" * 12)[2]), 1)
        self.check(TooDeep, twelve + "{use a}", len(twelve))

    def test_others_that_have_ended(self):
        self.assertEqual(len(parse_template(HEAD + "{if a}{end}" * 40)[2]), 40)
        eleven = HEAD + "{if a}" * 11
        self.assertEqual(len(parse_template(eleven + "{use b}{end}" * 5 + "{end}" * 11)[2]), 1)


class OrderTest(ErrorsTest):
    # What is wrong in each source of these stands at the last opening brace of the second text.
    FAULTS = [
        (BadDirective, "", "{bad x}"), (BadDirective, "", "{shape x}"), (BadDirective, "", "{"), (Misplaced, "", "{end}"),
        (Misplaced, "", "{else}"), (Misplaced, "", "{slot}"), (Misplaced, "", "{part x}"), (Misplaced, "", "{shape}"),
        (TooDeep, "{if a}" * 12, "{use b}"),
    ]

    def test_the_first_of_two(self):
        for error, before, fault in self.FAULTS:
            for _, other_before, other in self.FAULTS:
                if fault == "{":
                    continue
                source = HEAD + "x" + before + fault + "y" + other_before + other
                self.check(error, source, len(HEAD + "x" + before))

    def test_before_unclosed(self):
        for error, before, fault in self.FAULTS:
            if fault != "{":
                self.check(error, HEAD + "x" + before + fault + "{use c}", len(HEAD + "x" + before))
            if fault != "{end}" and before == "":
                self.check(error, HEAD + "{use c}{if a}{end}" + fault, 25)
        self.check(Unclosed, HEAD + "{use c}{if a}{end}", 7)

    def test_names_that_are_taken_first(self):
        for _, before, fault in self.FAULTS:
            self.check(TakenName, "{shape a text, a text}x" + before + fault, 0)
            self.check(TakenName, HEAD + "{part a}{end}{part a}" + fault, 20)
        self.check(TakenName, "{shape a text, a text}{part a}{end}{part a}{end}", 0)
        self.check(TakenName, HEAD + "{part a}{end}{part a}{if b}", 20)

    def test_names_that_are_taken_later(self):
        for error, before, fault in self.FAULTS:
            if fault != "{" and fault != "{part x}" and before == "":
                source = HEAD + "{part a}{end}" + fault + "{part a}{end}"
                self.check(error, source, 20)

    def test_bad_before_misplaced(self):
        for before in ("", "x", "{if a}", "{part b}"):
            for bad in ("{end }", "{else x}", "{slot }", "{part A}", "{shape A text}", "{shape }", "{part slot}"):
                self.check(BadDirective, HEAD + before + bad, len(HEAD + before))

    def test_misplaced_before_taken(self):
        self.check(Misplaced, HEAD + "x{shape a text, a text}", 8)
        self.check(Misplaced, HEAD + "{shape a text, a text}", 7)
        self.check(Misplaced, HEAD + "{part a}{end}x{part a}{end}", 21)
        self.check(Misplaced, HEAD + "{part a}{part a}{end}{end}", 15)

    def test_misplaced_before_too_deep(self):
        for opening, _ in OPENING:
            twelve = HEAD + opening * 12
            self.check(Misplaced, twelve + "{part a}", len(twelve))
            self.check(Misplaced, twelve + "{shape a text, a text}", len(twelve))

    def test_a_bad_directive_that_would_be_too_deep(self):
        self.check(BadDirective, HEAD + "{if a}" * 12 + "{if A}", 79)


class AgainstModelTest(unittest.TestCase):
    def check(self, source):
        """Compare with the model; return the name of the error, or None."""
        try:
            wanted = model_parse(source)
        except Fault as fault:
            with self.assertRaises(SamepageError) as caught:
                parse_template(source)
            self.assertEqual((type(caught.exception).__name__, caught.exception.at), fault.args, source)
            return fault.args[0]
        self.assertEqual(parse_template(source), wanted, source)
        self.assertEqual(alike(parse_template(write_template(wanted))), alike(wanted), source)
        return None

    def test_random_rows_of_directives(self):
        rng = random.Random(3)
        found = [self.check(loose_source(rng)) for _ in range(20000)]
        for name in ("BadDirective", "TakenName", "Misplaced", "Unclosed", None):
            self.assertGreater(found.count(name), 50, name)

    def test_random_templates(self):
        for source in sources(4, 2000):
            self.assertIn(self.check(source), (None, "TooDeep"))

    def test_every_short_row(self):
        pieces = ["{if a}", "{else}", "{end}", "{part b}", "{slot}", "x", "{{", "{"]
        for count in range(6):
            for row in itertools.product(pieces, repeat=count):
                self.check(HEAD + "".join(row))


class WriteTest(unittest.TestCase):
    def check(self, source, written=None):
        template = parse_template(source)
        self.assertEqual(write_template(template), source if written is None else written)
        self.assertEqual(alike(parse_template(write_template(template))), alike(template))

    def test_sources_that_are_written_again(self):
        for source in (
            "{shape}", "{shape a text}", "{shape a [b [], c data], d truth}", HEAD + "x", HEAD + "{a}{r.b}{data a}{data r.b}",
            HEAD + "{if a}{end}", HEAD + "{if a.b}x{else}y{end}", HEAD + "{if a}{else}y{end}", HEAD + "{for r in a}{end}",
            HEAD + "{for r in s.a}x{r.b}{end}", HEAD + "{use a}{end}", HEAD + "{use a}x{end}", HEAD + "{part a}{end}",
            HEAD + "{part a}{slot}x{end}{part b}{use a}{slot}{end}{end}y", HEAD + "}}", HEAD + "{{}", HEAD + "a{{{{b{{",
            HEAD + "{{{a}{{{if b}{{{else}{{{end}{{", HEAD + "{part a}{{{end}{{",
        ):
            self.check(source)

    def test_else_only_if_something_stands_behind_it(self):
        self.check(HEAD + "{if a}x{else}{end}", HEAD + "{if a}x{end}")
        self.check(HEAD + "{if a}{else}{end}", HEAD + "{if a}{end}")
        self.check(HEAD + "{if a}{else}{if b}{else}{end}{end}", HEAD + "{if a}{else}{if b}{end}{end}")

    def test_the_indexes_do_not_matter(self):
        template = ([], [("a", [("slot", -5)])], [
            ("text", "{x"), ("hole", ("", "a"), 10 ** 6), ("if", ("r", "a"), [], [("data", ("", "b"), 0)], 0)])
        self.assertEqual(
            write_template(template), "{shape}{part a}{slot}{end}{{x{a}{if r.a}{else}{data b}{end}")

    def test_each_text(self):
        for row in itertools.product("{}a ", repeat=4):
            text = "".join(row)
            template = ([], [("a", [("text", text)])], [("text", text), ("hole", ("", "b"), 0), ("text", text)])
            self.assertEqual(alike(parse_template(write_template(template))), template)


class AnswersTest(unittest.TestCase):
    SOURCE = "{shape a [b []]}{part c}{slot}{if a}{end}{end}{if a}{else}{end}{for r in a}{end}{use c}x{end}"

    def test_answers_are_new(self):
        kept = copy.deepcopy(parse_template(self.SOURCE))
        shape, parts, body = parse_template(self.SOURCE)
        shape[0][1][0][1].append("changed")
        shape.append("changed")
        parts[0][1][1][2].append("changed")
        parts.append("changed")
        for part in (body[0][2], body[0][3], body[1][3], body[2][2], body):
            part.append("changed")
        self.assertEqual(parse_template(self.SOURCE), kept)

    def test_the_lists_of_an_answer_are_not_shared(self):
        body = parse_template(HEAD + "{if a}{end}{if b}{end}")[2]
        body[0][2].append("changed")
        self.assertEqual(body[0][3], [])
        self.assertEqual(body[1], ("if", ("", "b"), [], [], 18))
        empty = parse_template(HEAD)
        empty[0].append("changed")
        self.assertEqual(empty, (["changed"], [], []))
        self.assertEqual(parse_template(HEAD), ([], [], []))

    def test_the_template_stays(self):
        template = parse_template(self.SOURCE)
        kept = copy.deepcopy(template)
        write_template(template)
        self.assertEqual(template, kept)

    def test_kinds_of_the_answer(self):
        template = parse_template(self.SOURCE)
        self.assertIs(type(template), tuple)
        self.assertEqual([type(part) for part in template], [list, list, list])
        self.assertTrue(all(type(part) is tuple for part in template[1]))
        self.assertTrue(all(type(node) is tuple for node in template[2]))
        self.assertIs(type(template[2][0][1]), tuple)

    def test_long_sources(self):
        for piece, many in (("{{", 996), ("}", 1990), ("{a}", 660), ("{if a}{end}", 180), ("x{a}", 490)):
            nodes = parse_template(HEAD + piece * many)[2]
            self.assertEqual(len(nodes), {"{{": 1, "}": 1, "x{a}": 2 * many}.get(piece, many))


if __name__ == "__main__":
    unittest.main()
