"""Points 605 and 606: accepted and refused templates, refusals, and certificates that show something."""

import copy
import random
import unittest

from samepage.codings.verdict import certificate, hole_kinds, is_accepted, refusal, shows
from samepage.data.records import misfit
from samepage.errors import Refused, SamepageError
from samepage.pages.tokens import is_possible
from samepage.rendering.expansion import own_tokens
from samepage.templates.laying import holes_of, lay_out
from samepage.templates.shapes import parse_shape
from samepage.templates.source import parse_template
from samepage.ways.certificate import states_at
from samepage.ways.program import program
from samepage.ways.reach import reachable, way_to
from samepage.ways.records import record_of
from tests.common import START
from tests.markup import LOOSE, SAFE, SHAPE, markup_sources
from tests.test_reach import text
from tests.test_ways_records import BLANK, blank, laid, line, row

P, Q = ("", "p"), ("", "q")
RP = ("r", "p")

# A text that leads to each closed place, with the state there and the text that no page can have there.
CLOSED = [
    ("<b", ("tag", "-", ""), ">"), ("<s", ("tag", "s", ""), ">"), ("<script", ("tag", "script", ""), ">"), ("</b", ("tag", "-", ""), ">"),
    ("<b ", ("gap", "-", ""), ">"), ("<style ", ("gap", "style", ""), ">"), ("<b c='x'", ("gap", "-", ""), ">"),
    ("<b c", ("name", "-", ""), ">"), ("<script c", ("name", "script", ""), ">"), ("</b c", ("name", "-", ""), ">"),
    ("<!--", ("comment", "", ""), "-->"), ("<!--x-", ("comment", "", "-"), "-->"), ("<!----", ("comment", "", "--"), "-->"),
]
RAW = [
    ("<script>", ("raw", "script", ""), "</script>"), ("<style>", ("raw", "style", ""), "</style>"),
    ("<style c=\"\">x<", ("raw", "style", "<"), "</style>"), ("<script></script", ("raw", "script", "</script"), "</script>"),
]


class VerdictTest(unittest.TestCase):
    def accepted(self, source):
        nodes = laid(source)
        self.assertIs(is_accepted(nodes), True, source)
        self.assertIsNone(refusal(SHAPE, nodes), source)
        self.assertEqual(certificate(nodes), reachable(program(nodes)), source)
        self.assertIs(shows(nodes, certificate(nodes)), True, source)

    def refused(self, source, hole, situation, record):
        nodes = laid(source)
        self.check_refused(nodes, SHAPE, hole, situation, record)

    def check_refused(self, nodes, shape, hole, situation, record):
        self.assertEqual(refusal(shape, nodes), (hole, situation, record))
        self.assertIs(is_accepted(nodes), False)
        with self.assertRaises(SamepageError) as caught:
            certificate(nodes)
        self.assertEqual((type(caught.exception), caught.exception.at), (Refused, hole))
        self.assertIs(shows(nodes, reachable(program(nodes))), False)
        self.assertIsNone(misfit(record, shape))
        self.assertIs(is_possible(own_tokens(nodes, record)), False)


class AcceptedTest(VerdictTest):
    def test_without_holes(self):
        for source in ["", "x", "<b", "<!--", "<script>x", "{if p}<b {else}<!--{end}", "{for r in rows}<b{end}"]:
            self.accepted(source)

    def test_each_open_place(self):
        for front in ["", "x", "<", "</", "<!", "<!-", "&", "&#1", "&am", "<b>", "<b c=", "<b c=x", "<b c=&l", "<b c=\"", "<b c=\"x&",
                      "<b c='", "<b c='&#3", "<script c=", "<style c=\"", "</b c=", "<!---->"]:
            for hole in ["{t}", "{data d}"]:
                for back in ["", "x", ">", "\"", "'", "<", "&l", "{t}", "{data d}"]:
                    self.accepted(front + hole + back)

    def test_data_in_raw_texts(self):
        for front, (_, element, _), _ in RAW:
            self.accepted(front + "{data d}")
            self.accepted(front + "{data d}{data d}</" + element + " c={t}")

    def test_open_in_each_state(self):
        self.accepted("{if p}<{else}&l{end}{t}")
        self.accepted("<b c={if p}'{else}{if q}\"{else}x{end}{end}{t}")
        self.accepted("{for r in rows}{r.t}<{end}{t}")
        self.accepted("<{if p}script{else}style{end}>{data d}")

    def test_loops(self):
        self.accepted("{for r in rows}<b>{r.t}{for s in r.inner}<i c={s.t}>{end}{end}{t}")
        self.accepted("{for r in rows}{t}<b>{end}")


class RefusedTest(VerdictTest):
    def test_a_text_hole_in_each_closed_place(self):
        for front, state, hopeless in CLOSED + RAW:
            self.refused(front + "{t}", 0, (len(front), (), state), blank(t=hopeless))
            self.refused(front + "{t}x{t}", 0, (len(front), (), state), blank(t=hopeless))

    def test_a_data_hole_in_each_closed_place(self):
        for front, state, hopeless in CLOSED:
            self.refused(front + "{data d}", 0, (len(front), (), state), blank(d=hopeless))

    def test_each_closed_place_in_conditions_and_loops(self):
        yes = ((P, True),)
        for front, state, hopeless in CLOSED + RAW:
            for field, hole in [("t", "{"), ("d", "{data ")]:
                if field == "d" and state[0] == "raw":
                    continue
                changed = {field: hopeless}
                number = len(front) + 1
                self.refused(front + "{if p}" + hole + field + "}{end}", 0, (number, yes, state), blank(p=True, **changed))
                self.refused(front + "{for r in rows}" + hole + "r." + field + "}{end}", 0, (number, (), state),
                             blank(rows=[{**row(), **changed}]))
                self.refused(front + "{for r in rows}{for s in r.inner}" + hole + "s." + field + "}{end}{end}", 0, (number + 1, (), state),
                             blank(rows=[row(inner=[{**line(), **changed}])]))

    def test_a_text_hole_behind_a_data_hole_in_a_raw_text(self):
        self.refused("<script>{data d}{t}", 1, (9, (), ("raw", "script", "")), blank(t="</script>"))

    def test_in_a_condition(self):
        self.refused("<{if p}b{t}{end}", 0, (3, ((P, True),), ("tag", "-", "")), blank(p=True, t=">"))
        self.refused("<{if p}b{else}!--{t}{end}", 0, (7, ((P, False),), ("comment", "", "")), blank(t="-->"))
        self.refused("{if p}{if q}<b {t}{end}{end}", 0, (5, ((P, True), (Q, True)), ("gap", "-", "")), blank(p=True, q=True, t=">"))

    def test_behind_a_condition(self):
        self.refused("{if p}<b{end}{t}", 0, (4, ((P, True),), ("tag", "-", "")), blank(p=True, t=">"))
        self.refused("{if p}{else}<b{end}{t}", 0, (4, ((P, False),), ("tag", "-", "")), blank(t=">"))

    def test_in_a_loop(self):
        self.refused("<b{for r in rows}{r.t}{end}", 0, (3, (), ("tag", "-", "")), blank(rows=[{**row(), "t": ">"}]))
        self.refused("<!--{for r in lines}{data r.d}{end}", 0, (5, (), ("comment", "", "")), blank(lines=[{**line(), "d": "-->"}]))

    def test_the_record_itself_in_a_loop(self):
        self.refused("<b{for r in rows}{t}{end}", 0, (3, (), ("tag", "-", "")), blank(rows=[row()], t=">"))
        self.refused("<b{for r in rows}{data d}{end}", 0, (3, (), ("tag", "-", "")), blank(rows=[row()], d=">"))

    def test_in_a_later_turn(self):
        self.refused("{for r in rows}{r.t}<b{end}", 0, (1, (), ("tag", "-", "")), blank(rows=[row(), {**row(), "t": ">"}]))
        self.refused("{for r in rows}{data r.d}<{end}{for r in lines}b{r.t}{end}", 1, (6, (), ("tag", "-", "")),
                     blank(rows=[row()], lines=[{**line(), "t": ">"}]))

    def test_the_present_turn_only(self):
        """Three turns are needed, and the change is in the last one."""
        self.refused("{for r in rows}{if r.p}<!{else}-{end}{for s in r.inner}{r.t}{end}{end}", 0,
                     (7, ((RP, False),), ("comment", "", "")),
                     blank(rows=[row(True), row(), {**row(inner=[line()]), "t": "-->"}]))
        yes, no = ((RP, True),), ((RP, False),)
        self.refused("{for r in rows}{if r.p}<{else}b{r.t}{end}{end}", 0, (5, no, ("tag", "-", "")),
                     blank(rows=[row(True), {**row(), "t": ">"}]))
        self.refused("{for r in rows}{if r.p}b{r.t}{else}<{end}{end}", 0, (3, yes, ("tag", "-", "")),
                     blank(rows=[row(), {**row(True), "t": ">"}]))

    def test_in_a_loop_in_a_loop(self):
        front = "<b{for r in rows}{for s in r.inner}"
        self.refused(front + "{s.t}{end}{end}", 0, (4, (), ("tag", "-", "")), blank(rows=[row(inner=[{**line(), "t": ">"}])]))
        self.refused(front + "{data s.d}{end}{end}", 0, (4, (), ("tag", "-", "")), blank(rows=[row(inner=[{**line(), "d": ">"}])]))
        self.refused(front + "{r.t}{end}{end}", 0, (4, (), ("tag", "-", "")), blank(rows=[{**row(inner=[line()]), "t": ">"}]))
        self.refused(front + "{data r.d}{end}{end}", 0, (4, (), ("tag", "-", "")), blank(rows=[{**row(inner=[line()]), "d": ">"}]))
        self.refused(front + "{t}{end}{end}", 0, (4, (), ("tag", "-", "")), blank(rows=[row(inner=[line()])], t=">"))

    def test_behind_a_loop_in_a_loop(self):
        self.refused("{for r in rows}{for s in r.inner}<!--{end}{r.t}{end}", 0, (7, (), ("comment", "", "")),
                     blank(rows=[{**row(inner=[line()]), "t": "-->"}]))
        self.refused("{for r in rows}{r.t}{for s in r.inner}{if s.q}<!--{end}{end}{end}", 0, (1, (), ("comment", "", "")),
                     blank(rows=[row(inner=[line(True)]), {**row(), "t": "-->"}]))

    def test_behind_a_loop(self):
        self.refused("{for r in rows}<b{end}{t}", 0, (4, (), ("tag", "-", "")), blank(rows=[row()], t=">"))
        self.refused("<{for r in rows}b{r.t}{end}{t}", 0, (3, (), ("tag", "-", "")), blank(rows=[{**row(), "t": ">"}]))

    def test_two_loops_with_the_same_variable(self):
        self.refused("{for r in rows}{r.t}{end}<b{for r in lines}{r.t}{end}", 1, (6, (), ("tag", "-", "")), blank(lines=[{**line(), "t": ">"}]))
        self.refused("{for r in rows}<{end}{for r in lines}b{r.t}{end}", 0, (5, (), ("tag", "-", "")),
                     blank(rows=[row()], lines=[{**line(), "t": ">"}]))

    def test_the_same_field_in_two_holes(self):
        self.refused("{t}<b{t}", 1, (3, (), ("tag", "-", "")), blank(t=">"))
        self.refused("<b c='{t}{data d}'{data d}", 2, (9, (), ("gap", "-", "")), blank(d=">"))

    def test_admissible_in_one_state_only(self):
        self.refused("{if p}<!--{end}{t}", 0, (6, ((P, True),), ("comment", "", "")), blank(p=True, t="-->"))
        self.refused("<script{if p} c='{else}>{end}{t}", 0, (14, ((P, False),), ("raw", "script", "")), blank(t="</script>"))
        self.refused("<script{if p}>{else} c{end}{data d}", 0, (12, ((P, False),), ("name", "script", "")), blank(d=">"))

    def test_the_first_of_several_situations(self):
        """The first one in the list, not the first one in the template."""
        self.refused("{if p}<b{t}{else}<!--x{t}{end}", 0, (3, ((P, True),), ("tag", "-", "")), blank(p=True, t=">"))
        self.refused("{if p}<!--x{t}{else}<b{t}{end}", 1, (10, ((P, False),), ("tag", "-", "")), blank(t=">"))
        self.refused("{if p}<b{else}<i{end}{t}", 0, (6, ((P, False),), ("tag", "-", "")), blank(t=">"))
        self.refused("{if p}<!--{else}<bcde{end}{t}", 0, (11, ((P, False),), ("tag", "-", "")), blank(t=">"))
        self.refused("{if p}<!--{else}<bcdefg{end}{t}", 0, (13, ((P, True),), ("comment", "", "")), blank(p=True, t="-->"))

    def test_other_answers_are_false(self):
        self.refused("{if p}x{else}y{end}{if q}<b{end}{t}", 0, (8, ((P, False), (Q, True)), ("tag", "-", "")), blank(q=True, t=">"))
        self.refused("<b{t}{if p}{end}", 0, (2, ((P, False),), ("tag", "-", "")), blank(t=">"))

    def test_shapes_of_their_own(self):
        shape = parse_shape("a text, b [c data, e [f text, g truth]]")
        nodes = lay_out(parse_template(
            "{shape a text, b [c data, e [f text, g truth]]}{for x in b}<b {for y in x.e}{if y.g}{y.f}{end}{end}>{end}{a}"))
        situation = (6, ((("y", "g"), True),), ("gap", "-", ""))
        record = {"a": "", "b": [{"c": None, "e": [{"f": ">", "g": True}]}]}
        self.check_refused(nodes, shape, 0, situation, record)

    def test_random_templates(self):
        rng = random.Random(14)
        counts = [0, 0]
        for rows in (LOOSE, SAFE):
            for source in markup_sources(41, 400, rows):
                nodes = lay_out(parse_template(source))
                found = reachable(program(nodes))
                if rows is SAFE and rng.random() < 0.7:
                    continue
                wanted = model_refusal(nodes, found)
                counts[wanted is None] += 1
                if wanted is None:
                    self.assertIsNone(refusal(SHAPE, nodes), source)
                    self.assertIs(is_accepted(nodes), True, source)
                    self.assertEqual(certificate(nodes), found)
                else:
                    self.check_refused(nodes, SHAPE, *wanted)
        self.assertGreater(min(counts), 60)


def model_refusal(nodes, found):
    """Point 605: the first situation by a look at each one, and the record by the loops around the hole."""
    instructions = program(nodes)
    holes = holes_of(nodes)
    for situation in found:
        number, _, state = situation
        if instructions[number][0] != "hole":
            continue
        hole = instructions[number][1]
        kind, (variable, name), _ = holes[hole]
        if state[0] in ("text", "bare", "double", "single", "equals") or state[0] == "raw" and kind == "data":
            continue
        record = record_of(SHAPE, instructions, way_to(instructions, situation))
        hopeless = {"comment": "-->", "raw": "</" + state[1] + ">"}.get(state[0], ">")
        elements = {"": record}
        last = record
        for new, list_name in loops_to(nodes, number):
            last = elements[new] = last[list_name][-1]
        elements[variable][name] = hopeless
        return hole, situation, record
    return None


def loops_to(nodes, number):
    """The variables and lists of the loops around the instruction, the outermost one first."""
    return [
        (instruction[1], instruction[2][1]) for at, instruction in enumerate(program(nodes))
        if instruction[0] == "for" and at < number < instruction[3]
    ]


class KindsTest(unittest.TestCase):
    def test_kinds(self):
        self.assertEqual(hole_kinds([]), [])
        self.assertEqual(hole_kinds(laid("x<b>")), [])
        self.assertEqual(hole_kinds(laid("{t}{data d}{t}")), ["text", "data", "text"])
        self.assertEqual(
            hole_kinds(laid("{if p}{data d}{else}{t}{end}{for r in rows}{r.t}{for s in r.inner}{data d}{end}{end}{t}")),
            ["data", "text", "text", "data", "text"])

    def test_answers_are_new(self):
        nodes = laid("{t}{data d}")
        hole_kinds(nodes).append("changed")
        self.assertEqual(hole_kinds(nodes), ["text", "data"])


class ShowsTest(unittest.TestCase):
    def test_any_order_and_duplicates(self):
        nodes = laid("{if p}<{end}{t}")
        found = certificate(nodes)
        self.assertEqual(len(found), 8)
        self.assertIs(shows(nodes, found[::-1]), True)
        self.assertIs(shows(nodes, found + found[::-1]), True)
        rng = random.Random(15)
        for _ in range(50):
            self.assertIs(shows(nodes, rng.sample(found, len(found)) + rng.sample(found, 3)), True)

    def test_nothing(self):
        self.assertIs(shows(laid("x"), []), False)
        self.assertIs(shows([], []), False)
        self.assertIs(shows([], [(0, (), START)]), True)

    def test_one_situation_left_out(self):
        for source in ["{if p}<{end}{t}", "{for r in rows}{r.t}<{end}", "x{t}", "<script>{data d}</script>", "{if p}{end}{if q}{end}"]:
            nodes = laid(source)
            found = certificate(nodes)
            for at in range(len(found)):
                self.assertIs(shows(nodes, found[:at] + found[at + 1:]), False, source)

    def test_a_closed_list_with_a_state_that_is_not_admissible(self):
        nodes = laid("{t}")
        found = certificate(nodes)
        self.assertIs(shows(nodes, found), True)
        for state in [("comment", "", "-"), ("tag", "s", ""), ("raw", "style", "")]:
            after = {"comment": ("comment", "", ""), "tag": ("tag", "-", ""), "raw": ("raw", "style", "")}[state[0]]
            more = [(0, (), state), (1, (), after)]
            self.assertIs(shows(nodes, found + more), False)
            self.assertIs(shows(nodes, more + found), False)
        # Without the hole, the state does not matter.
        self.assertIs(shows(laid("x"), certificate(laid("x")) + [(0, (), ("tag", "s", "")), (1, (), ("tag", "-", ""))]), True)

    def test_a_closed_list_with_more_states_that_are_admissible(self):
        nodes = laid("{t}x{data d}")
        found = certificate(nodes)
        self.assertIs(shows(nodes, found + [(0, (), text("<")), (1, (), START)]), True)
        self.assertIs(shows(nodes, found + [(2, (), ("raw", "style", "</")), (3, (), ("raw", "style", ""))]), True)
        self.assertIs(shows(nodes, found + [(0, (), ("raw", "style", "")), (1, (), ("raw", "style", "")), (2, (), ("raw", "style", "")),
                                            (3, (), ("raw", "style", ""))]), False)

    def test_refused_templates(self):
        for source in ["<b{t}", "<!--{data d}", "{if p}<b{end}{t}", "<script>{t}"]:
            nodes = laid(source)
            found = reachable(program(nodes))
            self.assertIs(shows(nodes, found), False, source)
            self.assertIs(shows(nodes, found * 2), False, source)
            for at in range(len(found)):
                self.assertIs(shows(nodes, found[:at] + found[at + 1:]), False, source)

    def test_if_some_certificate_shows_it_the_template_is_accepted(self):
        rng = random.Random(16)
        for source in markup_sources(42, 200, LOOSE):
            nodes = lay_out(parse_template(source))
            instructions = program(nodes)
            found = reachable(instructions)
            states = {hole: states_at(instructions, found, hole) for hole in range(len(hole_kinds(nodes)))}
            refused = any(
                state[0] in ("tag", "gap", "name", "comment") or state[0] == "raw" and kind == "text"
                for hole, kind in enumerate(hole_kinds(nodes)) for state in states[hole])
            self.assertIs(shows(nodes, rng.sample(found, len(found)) + found[-1:]), not refused, source)
            self.assertIs(is_accepted(nodes), not refused, source)


class AnswersTest(unittest.TestCase):
    def test_arguments_and_later_answers_stay(self):
        shape = parse_shape("t text, rows [t text, p truth, inner []]")
        nodes = [("for", "r", ("", "rows"), [("text", "<b"), ("hole", ("r", "t"), 40)], 3)]
        kept = copy.deepcopy((shape, nodes))
        wanted = (0, (3, (), ("tag", "-", "")), {"t": "", "rows": [{"t": ">", "p": False, "inner": []}]})
        found = refusal(shape, nodes)
        self.assertEqual(found, wanted)
        found[2]["rows"][0]["inner"].append(1)
        found[2]["rows"].append(2)
        self.assertEqual(refusal(shape, nodes), wanted)
        good = laid("{for r in rows}<b>{r.t}{end}")
        again = list(certificate(good))
        certificate(good).clear()
        self.assertEqual(certificate(good), again)
        situations = again[::-1]
        self.assertIs(shows(good, situations), True)
        self.assertEqual(situations, again[::-1])
        self.assertEqual((shape, nodes), kept)

    def test_kinds_of_answers(self):
        found = refusal(SHAPE, laid("<b{t}"))
        self.assertIs(type(found), tuple)
        self.assertEqual([type(part) for part in found], [int, tuple, dict])
        self.assertEqual(found[2], {**BLANK, "t": ">"})
        self.assertIs(type(certificate([])), list)


if __name__ == "__main__":
    unittest.main()
