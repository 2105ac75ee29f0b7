"""Points 309 to 312: templates laid out, and the holes of laid-out templates."""

import copy
import unittest

from samepage import errors
from samepage.errors import (
    FarList, ListTwice, SamepageError, TakenName, TooDeep, TooLarge, TooManyTruths, UnknownName, UnknownPart, WrongKind,
)
from samepage.templates.laying import holes_of, lay_out
from samepage.templates.source import parse_template
from tests.model_templates import Fault, model_lay, without_indexes
from tests.templates import sources

HEAD = "{shape t text, d data, p truth, q truth, rows [n text, p truth, inner [x text, deep []], more []], lines [n text]}"
# The fields of the shape of the templates that are written as lists of nodes.
SHAPE = [("t", "text"), ("d", "data"), ("rows", [("n", "text"), ("inner", [("x", "text")])])]
SHAPE += [(name, "truth") for name in "pqosuvw"]

TEXT = ("hole", ("", "t"), 0)


def laid(source):
    return lay_out(parse_template(HEAD + source))


def plain(source):
    """What is laid, without indexes."""
    return without_indexes(laid(source))


def hole(name, variable=""):
    return ("hole", (variable, name), 0)


class LayingTest(unittest.TestCase):
    def check(self, error, source, sign):
        """The error is raised at the index of the only place of the sign."""
        source = HEAD + source
        self.assertEqual(source.count(sign), 1, (source, sign))
        self.fails(error, parse_template(source), source.index(sign))

    def fails(self, error, template, at):
        with self.assertRaises(SamepageError) as caught:
            lay_out(template)
        self.assertEqual((type(caught.exception), caught.exception.at), (error, at))


class UsesTest(LayingTest):
    def same(self, source, *nodes):
        self.assertEqual(plain(source), list(nodes), source)

    def test_without_uses(self):
        self.same("")
        self.same("x", ("text", "x"))
        self.same("{t}{data d}", hole("t"), ("data", ("", "d"), 0))
        self.same("{if p}x{else}{t}{end}", ("if", ("", "p"), [("text", "x")], [hole("t")], 0))
        self.same("{for r in rows}{r.n}{end}", ("for", "r", ("", "rows"), [hole("n", "r")], 0))

    def test_uses_in_the_body(self):
        self.same("{part a}{t}{end}{use a}{end}{use a}{end}", hole("t"), hole("t"))
        self.same("{part a}x{end}{use a}{end}", ("text", "x"))
        self.same("{part a}{end}{use a}{t}{end}")
        self.same("{part a}<{slot}>{end}{use a}{t}{end}", ("text", "<"), hole("t"), ("text", ">"))
        self.same("{part a}{slot}{t}{slot}{end}{use a}{data d}{end}",
                  ("data", ("", "d"), 0), hole("t"), ("data", ("", "d"), 0))

    def test_uses_in_parts(self):
        self.same("{part a}x{end}{part b}{use a}{end}{t}{end}{use b}{end}", ("text", "x"), hole("t"))
        self.same("{part a}[{slot}]{end}{part b}{use a}({t}){end}{end}{use b}{end}",
                  ("text", "[("), hole("t"), ("text", ")]"))

    def test_uses_in_uses(self):
        self.same("{part a}[{slot}]{end}{use a}{use a}{t}{end}{end}", ("text", "[["), hole("t"), ("text", "]]"))
        self.same("{part a}[{slot}]{end}{part b}({slot}){end}{use a}{use b}x{end}{end}", ("text", "[(x)]"))
        self.same("{part a}[{slot}]{end}{part b}({slot}){end}{use b}{use a}x{end}y{end}", ("text", "([x]y)"))

    def test_slots_in_uses_are_those_of_the_part(self):
        self.same("{part a}[{slot}]{end}{part b}({use a}<{slot}>{end}){end}{use b}x{end}", ("text", "([<x>])"))
        self.same("{part a}{slot}{slot}{end}{part b}{use a}{slot}-{end}{slot}{end}{use b}x{end}", ("text", "x-x-x"))
        self.same("{part a}[{slot}]{end}{part b}{use a}1{slot}{end}{end}{part c}{use b}2{slot}{end}{end}{use c}3{end}",
                  ("text", "[123]"))
        self.same("{part a}[{slot}]{end}{part b}{use a}{slot}{end}{use a}{use a}{slot}{end}{end}{end}{use b}{t}{end}",
                  ("text", "["), hole("t"), ("text", "][["), hole("t"), ("text", "]]"))

    def test_slots_in_conditions_and_loops(self):
        self.same("{part a}{if p}{slot}{else}-{end}{end}{use a}x{end}",
                  ("if", ("", "p"), [("text", "x")], [("text", "-")], 0))
        self.same("{part a}{for r in rows}{slot}{r.n}{end}{end}{use a}{r.n}{end}",
                  ("for", "r", ("", "rows"), [hole("n", "r"), hole("n", "r")], 0))

    def test_texts_are_joined(self):
        self.same("{part a}b{end}a{use a}{end}c", ("text", "abc"))
        self.same("{part a}b{slot}d{end}a{use a}c{end}e", ("text", "abcde"))
        self.same("{part a}{slot}{end}a{use a}b{use a}c{end}d{end}e", ("text", "abcde"))
        self.same("{part a}b{end}{if p}a{use a}{end}c{else}{use a}{end}{use a}{end}{end}",
                  ("if", ("", "p"), [("text", "abc")], [("text", "bb")], 0))
        self.same("{part a}b{end}{for r in rows}{use a}{end}c{end}d",
                  ("for", "r", ("", "rows"), [("text", "bc")], 0), ("text", "d"))
        self.same("{part a}b{t}c{end}a{use a}{end}d{use a}{end}e",
                  ("text", "ab"), hole("t"), ("text", "cdb"), hole("t"), ("text", "ce"))

    def test_texts_that_vanish(self):
        self.same("{part a}{end}x{use a}gone{end}y", ("text", "xy"))
        self.same("{part a}{end}{use a}gone{end}")
        self.same("{part a}{slot}{end}x{use a}{end}y", ("text", "xy"))
        self.same("{part a}{end}x{use a}{t}{for r in rows}{end}{end}y", ("text", "xy"))

    def test_texts_of_different_lists_are_not_joined(self):
        self.same("a{if p}b{else}c{end}d",
                  ("text", "a"), ("if", ("", "p"), [("text", "b")], [("text", "c")], 0), ("text", "d"))
        self.same("{part x}b{if p}c{end}{end}a{use x}{end}d",
                  ("text", "ab"), ("if", ("", "p"), [("text", "c")], [], 0), ("text", "d"))

    def test_indexes_stay(self):
        source = "{part a}{t}{if p}{slot}{end}{end}{use a}{data d}{end}{use a}{t}{end}"
        at = len(HEAD)
        self.assertEqual(laid(source), [
            ("hole", ("", "t"), at + 8), ("if", ("", "p"), [("data", ("", "d"), at + 40)], [], at + 11),
            ("hole", ("", "t"), at + 8), ("if", ("", "p"), [("hole", ("", "t"), at + 60)], [], at + 11),
        ])

    def test_parts_that_are_not_used(self):
        self.same("{part a}{zz}{use b}{end}{for r in t}{end}{end}x", ("text", "x"))
        self.same("{part a}{end}{part b}{use b}{zz}{end}{end}{use a}{x.y}{use zz}{end}{end}x", ("text", "x"))


class ScopesTest(LayingTest):
    def test_paths_are_understood_where_they_are_laid(self):
        self.assertEqual(plain("{part a}{r.n}{end}{for r in rows}{use a}{end}{end}"), [
            ("for", "r", ("", "rows"), [hole("n", "r")], 0)])
        self.assertEqual(plain("{part a}{for r in rows}{slot}{end}{end}{use a}{if r.p}{r.n}{end}{end}"), [
            ("for", "r", ("", "rows"), [("if", ("r", "p"), [hole("n", "r")], [], 0)], 0)])
        self.check(UnknownName, "{part a}{r.n}{end}{use a}{end}{for r in rows}{use a}{end}{end}", "{r.n}")
        self.check(UnknownName, "{part a}{slot}{for r in rows}{end}{end}{use a}{r.n}{end}", "{r.n}")

    def test_the_same_part_in_loops_over_different_lists(self):
        self.assertEqual(
            plain("{part a}{r.n}{end}{for r in rows}{use a}{end}{end}{for r in lines}{use a}{end}{end}"), [
                ("for", "r", ("", "rows"), [hole("n", "r")], 0), ("for", "r", ("", "lines"), [hole("n", "r")], 0)])
        self.check(UnknownName, "{part a}{if r.p}{end}{end}{for r in rows}{use a}{end}{end}{for r in lines}{use a}{end}{end}",
                   "{if r.p}")

    def test_loops_in_parts(self):
        self.assertEqual(plain("{part a}{for s in r.inner}{s.x}{slot}{end}{end}{for r in rows}{use a}{r.n}{t}{end}{end}"), [
            ("for", "r", ("", "rows"), [
                ("for", "s", ("r", "inner"), [hole("x", "s"), hole("n", "r"), hole("t")], 0)], 0)])
        self.check(FarList, "{part a}{for s in rows}{end}{end}{for r in lines}{use a}{end}{end}", "{for s")
        self.check(UnknownName, "{part a}{for s in r.inner}{end}{end}{use a}{end}", "{for s")

    def test_outer_scopes_stay(self):
        source = "{for r in rows}{for s in r.inner}{s.x}{r.n}{t}{data d}{if p}{if r.p}{end}{end}{end}{end}"
        self.assertEqual(len(laid(source)), 1)

    def test_a_variable_ends_with_its_loop(self):
        self.check(UnknownName, "{for r in rows}{end}{r.n}", "{r.n}")
        self.check(UnknownName, "{for r in rows}{for s in r.inner}{end}{s.x}{end}", "{s.x}")
        self.assertEqual(len(laid("{for r in rows}{end}{for r in lines}{end}")), 2)

    def test_a_variable_may_have_the_name_of_a_field(self):
        self.assertEqual(plain("{for t in rows}{t.n}{t}{end}"), [("for", "t", ("", "rows"), [hole("n", "t"), hole("t")], 0)])
        self.assertEqual(len(laid("{for rows in rows}{for inner in rows.inner}{end}{end}")), 1)


class ErrorsTest(LayingTest):
    def test_unknown_part(self):
        self.check(UnknownPart, "{use a}{end}", "{use a}")
        self.check(UnknownPart, "{part b}{end}{use a}{end}", "{use a}")
        self.check(UnknownPart, "{part a}{use a}{end}{end}{use a}x{end}", "{use a}{end}{end}")
        self.check(UnknownPart, "{part a}{use b}{end}{end}{part b}{end}{use a}{end}", "{use b}")
        self.check(UnknownPart, "{part a}{slot}{end}{part b}{use a}{use b}{end}{end}{end}{use b}x{end}", "{use b}{end}")
        self.check(UnknownPart, "{part a}{slot}{end}{use a}{use zz}{end}{end}", "{use zz}")

    def test_uses_in_the_nodes_of_a_use(self):
        # They may use what stands before their own source, not before the part in whose slot they are laid.
        self.assertEqual(plain("{part a}{slot}{end}{part b}x{end}{use a}{use b}{end}{end}"), [("text", "x")])
        self.assertEqual(plain(
            "{part a}{slot}{end}{part b}x{end}{part c}{use a}{use b}{end}{end}{end}{use c}{end}"), [("text", "x")])
        self.check(UnknownPart, "{part a}{slot}{end}{part b}{use a}{use c}{end}{end}{end}{part c}{end}{use b}{end}", "{use c}")
        self.assertEqual(plain(
            "{part a}{slot}{end}{part b}{use a}{slot}{end}{end}{part c}x{end}{use b}{use c}{end}{end}"), [("text", "x")])

    def test_unknown_name(self):
        for path in ("zz", "n", "r.n", "t.t", "rows.n", "x.t"):
            self.check(UnknownName, "{" + path + "}", "{" + path + "}")
            self.check(UnknownName, "{data " + path + "}", "{data")
            self.check(UnknownName, "{if " + path + "}{end}", "{if")
            self.check(UnknownName, "{for y in " + path + "}{end}", "{for")
        for path in ("r.t", "r.x", "s.n", "n", "r.zz"):
            self.check(UnknownName, "{for r in rows}{" + path + "}{end}", "{" + path + "}")
            self.check(UnknownName, "{for r in rows}{for y in " + path + "}{end}{end}", "{for y")
        self.check(UnknownName, "{for r in r.rows}{end}", "{for")

    def test_wrong_kind(self):
        for field in ("d", "p", "rows"):
            self.check(WrongKind, "{" + field + "}", "{" + field + "}")
        for field in ("t", "p", "rows"):
            self.check(WrongKind, "{data " + field + "}", "{data")
        for field in ("t", "d", "rows"):
            self.check(WrongKind, "{if " + field + "}{end}", "{if")
        for field in ("t", "d", "p"):
            self.check(WrongKind, "{for r in " + field + "}{end}", "{for")
        for field in ("p", "inner", "more"):
            self.check(WrongKind, "{for r in rows}{r." + field + "}{end}", "{r.")
        self.check(WrongKind, "{for r in rows}{for s in r.n}{end}{end}", "{for s")
        self.check(WrongKind, "{for r in rows}{if r.more}{end}{end}", "{if")

    def test_empty_shapes_are_lists(self):
        self.assertEqual(plain("{for r in rows}{for s in r.more}x{end}{end}"), [
            ("for", "r", ("", "rows"), [("for", "s", ("r", "more"), [("text", "x")], 0)], 0)])

    def test_far_list(self):
        self.check(FarList, "{for r in rows}{for s in lines}{end}{end}", "{for s")
        self.check(FarList, "{for r in rows}{for s in r.inner}{for y in r.more}{end}{end}{end}", "{for y")
        self.check(FarList, "{for r in rows}{for s in r.inner}{for y in lines}{end}{end}{end}", "{for y")
        self.check(FarList, "{for r in rows}{if p}{for s in lines}{end}{end}{end}", "{for s")
        self.assertEqual(len(laid("{if p}{for r in rows}{if r.p}{for s in r.inner}{end}{end}{end}{end}")), 1)

    def test_list_twice(self):
        self.check(ListTwice, "{for r in rows}{end}{for s in rows}{end}", "{for s")
        self.check(ListTwice, "{for r in rows}{for s in r.inner}{end}{for y in r.inner}{end}{end}", "{for y")
        self.check(ListTwice, "{for r in rows}{end}{if p}{for s in rows}{end}{end}", "{for s")
        self.check(ListTwice, "{if p}{for r in rows}{end}{end}{for s in rows}{end}", "{for s")
        self.assertEqual(len(laid("{for r in rows}{for s in r.inner}{end}{for y in r.more}{end}{end}{for r in lines}{end}")), 2)

    def test_the_same_list_in_both_branches(self):
        self.check(ListTwice, "{if p}{for r in rows}{end}{else}{for s in rows}{end}{end}", "{for s")
        self.check(ListTwice, "{for r in rows}{if p}{for s in r.inner}{end}{else}{for y in r.inner}{end}{end}{end}", "{for y")

    def test_the_same_list_in_a_part_that_is_used_twice(self):
        self.check(ListTwice, "{part a}{for r in rows}{end}{end}{use a}{end}{use a}{end}", "{for")
        self.check(ListTwice, "{part a}{slot}{slot}{end}{use a}{for r in rows}{end}{end}", "{for")
        self.check(ListTwice, "{part a}{for s in r.inner}{end}{end}{for r in rows}{use a}{end}{use a}{end}{end}", "{for s")
        self.assertEqual(len(laid("{part a}{for r in rows}{end}{end}{use a}{end}")), 1)

    def test_the_same_list_in_different_scopes(self):
        # Each loop that is laid is a scope of its own.
        source = "{part a}{for s in r.list}{end}{end}{for r in one}{use a}{end}{end}{for r in two}{use a}{end}{end}"
        self.assertEqual(len(lay_out(parse_template("{shape one [list []], two [list []]}" + source))), 2)
        source = "{for r in rows}{for s in r.rows}{for y in s.rows}{end}{end}{end}"
        self.assertEqual(len(lay_out(parse_template("{shape rows [rows [rows []]]}" + source))), 1)

    def test_taken_name(self):
        self.check(TakenName, "{for r in rows}{for r in r.inner}{end}{end}", "{for r in r.")
        self.check(TakenName, "{for r in rows}{for s in r.inner}{for r in s.deep}{end}{end}{end}", "{for r in s.")
        self.check(TakenName, "{for r in rows}{for s in r.inner}{for s in s.deep}{end}{end}{end}", "{for s in s.")
        self.check(TakenName, "{part a}{for r in r.inner}{end}{end}{for r in rows}{use a}{end}{end}", "{for r in r.")
        self.assertEqual(len(laid("{for r in rows}{for s in r.inner}{end}{for s in r.more}{end}{end}{for s in lines}{end}")), 2)


class TruthsTest(LayingTest):
    SIX = "".join("{if " + name + "}{end}" for name in "pqosuv")

    def body(self, text):
        shape = "{shape p truth, q truth, o truth, s truth, u truth, v truth, w truth, t text, rows [p truth, q truth], "
        return shape + "lines [p truth]}" + text

    def test_six(self):
        for text in (self.SIX, self.SIX * 2, self.SIX + "{if p}{if q}{else}{if v}{end}{end}{end}"):
            self.assertGreater(len(lay_out(parse_template(self.body(text)))), 5)

    def test_the_seventh(self):
        for text in (
            self.SIX + "{if w}", "{if p}{if q}{if o}{if s}{if u}{if v}{end}{end}{end}{end}{end}{end}{if w}",
            "{if p}{if q}{end}{else}{if o}{end}{end}" + self.SIX + "{if w}", "{if p}{if q}{if o}{if s}{if u}{if v}{else}{if w}",
        ):
            source = self.body(text + "{end}" * (text.count("{if") - text.count("{end}")))
            self.fails(TooManyTruths, parse_template(source), source.index("{if w}"))

    def test_paths_count_as_pairs(self):
        five = self.SIX.replace("{if v}{end}", "")
        source = self.body(five + "{for r in rows}{if r.p}{end}{if p}{end}{if r.p}{end}{end}")
        self.assertEqual(len(lay_out(parse_template(source))), 6)
        source = self.body(five + "{for r in rows}{if r.p}{end}{if r.q}{end}{end}")
        self.fails(TooManyTruths, parse_template(source), source.index("{if r.q}"))
        # In another scope, it is still the same path.
        source = self.body(five + "{for r in rows}{if r.p}{end}{end}{for r in lines}{if r.p}{end}{end}")
        self.assertEqual(len(lay_out(parse_template(source))), 7)
        source = self.body(five + "{for r in rows}{if r.p}{end}{end}{for s in lines}{if s.p}{end}{end}")
        self.fails(TooManyTruths, parse_template(source), source.index("{if s.p}"))

    def test_only_what_is_laid_counts(self):
        source = self.body("{part a}" + self.SIX + "{end}{part b}{end}{use b}" + self.SIX + "{end}{if w}{end}")
        self.assertEqual(len(lay_out(parse_template(source))), 1)


def inside(many, nodes):
    """The nodes inside of so many conditions."""
    for number in range(many):
        branches = (nodes, []) if number % 2 else ([], nodes)
        nodes = [("if", ("", "p"), *branches, number)]
    return nodes


def inside_uses(many, nodes):
    """The nodes inside of so many uses of a part `a`, and of as many slots."""
    for _ in range(many):
        nodes = [("use", "a", nodes, 0)]
    return nodes


class TooDeepTest(LayingTest):
    def test_conditions(self):
        for node in (TEXT, ("data", ("", "d"), 0), ("if", ("", "q"), [], [], 0), ("for", "r", ("", "rows"), [], 0)):
            node = node[:-1] + (99,)
            self.assertEqual(len(lay_out((SHAPE, [], inside(39, [node])))), 1)
            self.fails(TooDeep, (SHAPE, [], inside(40, [node])), 99)
            self.fails(TooDeep, (SHAPE, [], inside(41, [node])), 0)

    def test_uses_and_slots(self):
        parts = [("a", [("slot", 98)])]
        use = ("use", "a", [TEXT[:-1] + (97,)], 99)
        for uses in range(19):
            # The use stands in `others` others, its slot in one more, and the hole in two more.
            for others, at in ((37, None), (38, 97), (39, 98), (40, 99)):
                template = (SHAPE, parts, inside(others - 2 * uses, inside_uses(uses, [use])))
                if at is None:
                    self.assertEqual(len(lay_out(template)), 1)
                else:
                    self.fails(TooDeep, template, at)

    def test_loops(self):
        for many, is_fine in ((37, True), (38, False)):
            inner = ("for", "s", ("r", "inner"), [("hole", ("s", "x"), 97)], 98)
            template = (SHAPE, [], inside(many, [("for", "r", ("", "rows"), [inner], 99)]))
            if is_fine:
                self.assertEqual(len(lay_out(template)), 1)
            else:
                self.fails(TooDeep, template, 97)

    def test_texts_are_not_checked(self):
        self.assertEqual(len(lay_out((SHAPE, [], inside(40, [("text", "x")])))), 1)

    def test_sources(self):
        part = "{part a}" + "{if p}" * 11 + "{slot}" + "{end}" * 12
        for between, tail, is_fine in (("", "x", True), ("", "{t}", True), ("{if p}", "x", True), ("{if p}", "{t}", False)):
            body = between + "{use a}" * 3 + tail + "{end}" * (3 + between.count("{"))
            template = parse_template(HEAD + part + body)
            if is_fine:
                self.assertEqual(len(lay_out(template)), 1)
            else:
                self.fails(TooDeep, template, len(HEAD + part + between) + 21)


class TooLargeTest(LayingTest):
    def test_holes(self):
        holes = [("hole", ("", "t"), number) for number in range(2001)]
        self.assertEqual(len(lay_out((SHAPE, [], holes[:2000]))), 2000)
        self.fails(TooLarge, (SHAPE, [], holes), 2000)
        self.fails(TooLarge, (SHAPE, [], holes + holes), 2000)

    def test_texts_do_not_count(self):
        nodes = [node for number in range(2000) for node in (("text", "x"), ("hole", ("", "t"), number), ("text", "y"))]
        laid_out = lay_out((SHAPE, [], nodes + [("text", "z")]))
        self.assertEqual(len(laid_out), 4001)
        self.fails(TooLarge, (SHAPE, [], nodes + [("data", ("", "d"), 77)]), 77)

    def test_uses_and_slots_count(self):
        parts = [("a", [("slot", -1)]), ("b", [("text", "x")])]
        uses = [("use", "a", [TEXT], number) for number in range(1000)]
        self.assertEqual(len(lay_out((SHAPE, parts, uses[:666]))), 666)
        self.assertEqual(len(lay_out((SHAPE, parts, uses[:666] + [TEXT, TEXT]))), 668)
        self.fails(TooLarge, (SHAPE, parts, uses[:666] + [TEXT, TEXT, ("hole", ("", "t"), 55)]), 55)
        self.fails(TooLarge, (SHAPE, parts, uses[:666] + [TEXT, ("use", "a", [TEXT], 55)]), -1)
        empty = [("use", "b", [TEXT], number) for number in range(2001)]
        self.assertEqual(lay_out((SHAPE, parts, empty[:2000])), [("text", "x" * 2000)])
        self.fails(TooLarge, (SHAPE, parts, empty), 2000)

    def test_conditions_and_loops_count(self):
        nodes = [("if", ("", "p"), [TEXT], [TEXT, TEXT], number) for number in range(500)]
        self.assertEqual(len(lay_out((SHAPE, [], nodes))), 500)
        self.fails(TooLarge, (SHAPE, [], nodes + [("for", "r", ("", "rows"), [], 88)]), 88)
        loop = [("for", "r", ("", "rows"), [("hole", ("r", "n"), number) for number in range(1999)], 88)]
        self.assertEqual(len(lay_out((SHAPE, [], loop))), 1)
        self.fails(TooLarge, (SHAPE, [], loop + [("hole", ("", "t"), 66)]), 66)

    def test_a_source(self):
        parts = "{part a}{t}{t}{t}{t}{t}{t}{t}{t}{t}{end}{part b}" + "{use a}{end}" * 10 + "{end}"
        # A use of `b` lays itself and ten uses of nine holes: 101 nodes.
        source = HEAD + parts + "{use b}{end}" * 19
        self.assertEqual(len(lay_out(parse_template(source + "{t}" * 81))), 19 * 90 + 81)
        self.fails(TooLarge, parse_template(source + "{t}" * 82), len(source) + 3 * 81)

    def test_parts_that_grow_without_end(self):
        source = HEAD + "{part a}{end}"
        for number in range(1, 20):
            name = "abcdefghijklmnopqrstuvwxyz"[number]
            before = "abcdefghijklmnopqrstuvwxyz"[number - 1]
            source += "{part " + name + "}" + ("{use " + before + "}{end}") * 3 + "{end}"
        with self.assertRaises(TooLarge):
            lay_out(parse_template(source + "{use t}{end}"))


class OrderTest(LayingTest):
    def test_a_directive_before_its_content(self):
        for opening, error in (
            ("{if zz}", UnknownName), ("{if t}", WrongKind), ("{for r in zz}", UnknownName), ("{for r in t}", WrongKind),
            ("{use zz}", UnknownPart),
        ):
            self.check(error, opening + "{y.y}{use y}{end}{end}", opening)

    def test_the_first_of_two_nodes(self):
        faults = [("{use zz}{end}", UnknownPart), ("{zz}", UnknownName), ("{d}", WrongKind), ("{if p}{data p}{end}", WrongKind)]
        faults += [("{for r in rows}{for s in lines}{end}{end}", FarList)]
        for one, error in faults:
            for other, _ in faults:
                with self.assertRaises(SamepageError) as caught:
                    laid("x{t}" + one + other)
                at = len(HEAD) + 4 + (6 if one[:5] == "{if p" else 15 if one[:4] == "{for" else 0)
                self.assertEqual((type(caught.exception), caught.exception.at), (error, at))

    def test_the_first_branch_before_the_second_one(self):
        self.check(UnknownName, "{if p}{zz}{else}{d}{end}", "{zz}")
        self.check(WrongKind, "{if p}{d}{else}{zz}{end}", "{d}")

    def test_parts_are_checked_where_they_are_laid(self):
        self.check(WrongKind, "{part a}{zz}{end}{d}{use a}{end}", "{d}")
        self.check(UnknownName, "{part a}{zz}{end}{use a}{end}{d}", "{zz}")
        self.check(UnknownName, "{part a}{zz}{slot}{end}{use a}{d}{end}", "{zz}")
        self.check(WrongKind, "{part a}{slot}{zz}{end}{use a}{d}{end}", "{d}")

    def test_wrong_kind_before_far_list(self):
        self.check(WrongKind, "{for r in rows}{for s in t}{end}{end}", "{for s")
        self.check(WrongKind, "{for r in rows}{for s in r.inner}{for y in r.n}{end}{end}{end}", "{for y")

    def test_far_list_before_list_twice(self):
        self.check(FarList, "{for r in rows}{for s in rows}{end}{end}", "{for s")
        self.check(FarList, "{for r in rows}{end}{for r in lines}{for s in rows}{end}{end}", "{for s")
        self.check(FarList, "{for r in rows}{for s in r.inner}{for y in r.inner}{end}{end}{end}", "{for y")

    def test_list_twice_before_taken_name(self):
        self.check(ListTwice, "{for r in rows}{for s in r.inner}{end}{for r in r.inner}{end}{end}", "{for r in r.")

    def test_far_list_before_taken_name(self):
        self.check(FarList, "{for r in rows}{for r in lines}{end}{end}", "{for r in lines")

    def test_unknown_name_before_taken_name(self):
        self.check(UnknownName, "{for r in rows}{for r in r.zz}{end}{end}", "{for r in r.")

    def test_each_error_before_too_deep(self):
        parts = [("a", [])]
        seven = [("if", ("", name), [], [], 0) for name in "pqosuv"]
        for node, error in (
            (("use", "b", [], 99), UnknownPart), (("hole", ("", "zz"), 99), UnknownName), (("hole", ("", "d"), 99), WrongKind),
            (("if", ("", "w"), [], [], 99), TooManyTruths), (("use", "a", [], 99), TooDeep), (TEXT[:-1] + (99,), TooDeep),
        ):
            self.fails(error, (SHAPE, parts, seven + inside(40, [node])), 99)

    def test_loops_before_too_deep(self):
        for node, error in (
            (("for", "s", ("", "rows"), [], 99), FarList), (("for", "r", ("r", "inner"), [], 99), TakenName),
            (("for", "s", ("r", "n"), [], 99), WrongKind), (("for", "s", ("r", "inner"), [], 99), TooDeep),
        ):
            self.fails(error, (SHAPE, [], [("for", "r", ("", "rows"), inside(39, [node]), 0)]), 99)
        twice = ("for", "s", ("", "rows"), [], 99)
        self.fails(ListTwice, (SHAPE, [], [("for", "r", ("", "rows"), [], 0)] + inside(40, [twice])), 99)

    def test_too_deep_before_too_large(self):
        for many, error in ((39, TooLarge), (40, TooDeep)):
            nodes = [TEXT] * (2000 - many) + inside(many, [TEXT[:-1] + (99,)])
            self.fails(error, (SHAPE, [], nodes), 99)

    def test_each_error_before_too_large(self):
        full = [("if", ("", name), [], [], 0) for name in "pqosuv"] + [TEXT] * 1994
        self.assertEqual(len(lay_out((SHAPE, [], full))), 2000)
        for node, error in (
            (("use", "b", [], 99), UnknownPart), (("data", ("", "zz"), 99), UnknownName), (("data", ("", "t"), 99), WrongKind),
            (("if", ("", "w"), [], [], 99), TooManyTruths), (("for", "r", ("", "t"), [], 99), WrongKind),
            (("for", "r", ("", "rows"), [], 99), TooLarge), (("if", ("", "p"), [], [], 99), TooLarge),
        ):
            self.fails(error, (SHAPE, [], full + [node]), 99)
        loop = [("for", "r", ("", "rows"), [TEXT] * 1999 + [("for", "r", ("r", "inner"), [], 99)], 0)]
        self.fails(TakenName, (SHAPE, [], loop), 99)


class AgainstModelTest(unittest.TestCase):
    def test_random_templates(self):
        found = {}
        for source in sources(5, 8000):
            name = self.check(source)
            found[name] = found.get(name, 0) + 1
        for name in ("UnknownPart", "UnknownName", "WrongKind", "FarList", "ListTwice", "TakenName", "TooManyTruths", None):
            self.assertGreater(found.get(name, 0), 20, name)

    def check(self, source):
        """Compare with the model; return the name of the error, or None."""
        try:
            template = parse_template(source)
        except TooDeep:
            return "depth"
        kept = copy.deepcopy(template)
        try:
            wanted = model_lay(template)
        except Fault as fault:
            with self.assertRaises(SamepageError) as caught:
                lay_out(template)
            self.assertIs(type(caught.exception), getattr(errors, fault.args[0]), source)
            self.assertEqual(caught.exception.at, fault.args[1], source)
            return fault.args[0]
        finally:
            self.assertEqual(template, kept)
        self.assertEqual(lay_out(template), wanted, source)
        self.assertEqual(holes_of(wanted), list(holes_in(wanted)))
        return None


def holes_in(nodes):
    """The holes of laid-out nodes, by a walk through all that stands in them."""
    for node in nodes:
        if node[0] in ("hole", "data"):
            yield node
        for part in node:
            if isinstance(part, list):
                yield from holes_in(part)


class HolesTest(unittest.TestCase):
    def test_in_order(self):
        one, two, three, four, five = [(kind, ("", name), at) for kind, name, at in (
            ("hole", "a", 5), ("data", "b", 3), ("hole", "a", 5), ("hole", "c", 9), ("data", "d", 1))]
        self.assertEqual(holes_of([]), [])
        self.assertEqual(holes_of([("text", "x")]), [])
        self.assertEqual(holes_of([one, ("text", "x"), two]), [one, two])
        self.assertEqual(holes_of([three, one, three]), [three, one, three])
        condition = ("if", ("", "p"), [two, ("text", "x")], [("for", "r", ("", "l"), [three], 0), four], 0)
        self.assertEqual(holes_of([one, condition, five]), [one, two, three, four, five])
        loop = ("for", "r", ("", "l"), [five, ("if", ("", "p"), [], [four], 0), three], 0)
        self.assertEqual(holes_of([loop, two]), [five, four, three, two])

    def test_deep_ones(self):
        nodes = [TEXT]
        for _ in range(20):
            nodes = [("data", ("", "d"), 1), ("if", ("", "p"), nodes, [TEXT], 2)]
        self.assertEqual(holes_of(nodes), [("data", ("", "d"), 1)] * 20 + [TEXT] * 21)


class AnswersTest(unittest.TestCase):
    SOURCE = "{part a}{if p}{slot}{end}{end}{use a}{t}{end}{for r in rows}{end}{if q}{else}{end}"

    def test_answers_are_new(self):
        template = parse_template(HEAD + self.SOURCE)
        kept = copy.deepcopy(template)
        answer = lay_out(template)
        again = copy.deepcopy(answer)
        holes = holes_of(answer)
        self.assertEqual(answer, again)
        for part in (answer[0][2], answer[0][3], answer[1][3], answer[2][2], answer[2][3], answer, holes):
            part.append("changed")
        self.assertEqual(template, kept)
        self.assertEqual(lay_out(template), again)
        self.assertEqual(len(holes_of(again)), 1)

    def test_a_part_that_is_used_twice_is_not_shared(self):
        template = parse_template(HEAD + "{part a}{if p}{t}{end}{end}{use a}{end}{use a}{end}")
        answer = lay_out(template)
        answer[0][2].append("changed")
        answer[0][3].append("changed")
        self.assertEqual(len(answer[1][2]), 1)
        self.assertEqual(answer[1][3], [])

    def test_the_template_stays_also_beside_an_error(self):
        template = parse_template(HEAD + self.SOURCE + "{zz}")
        kept = copy.deepcopy(template)
        self.assertRaises(UnknownName, lay_out, template)
        self.assertEqual(template, kept)

    def test_kinds_of_the_answer(self):
        answer = lay_out(parse_template(HEAD + "x" + self.SOURCE[len("{part a}{if p}{slot}{end}{end}"):].replace("use a", "if p")))
        self.assertIs(type(answer), list)
        self.assertTrue(all(type(node) is tuple for node in answer))
        self.assertEqual([type(part) for part in answer[1]], [str, tuple, list, list, int])


if __name__ == "__main__":
    unittest.main()
