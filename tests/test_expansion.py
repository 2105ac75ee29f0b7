"""Points 701 and 702, with points 402 and 407: expansions, and the own tokens of a template with a record."""

import copy
import random
import unittest

from samepage.rendering.expansion import expand, own_tokens
from samepage.templates.laying import holes_of, lay_out
from samepage.templates.source import parse_template
from samepage.ways.program import program
from tests.markup import LOOSE, SAFE, markup_sources, random_record
from tests.model import model_pieces, model_row_events, model_tokens
from tests.model_data import model_notation
from tests.model_ways import Run
from tests.test_values import VALUES, in_lists, in_maps, mixed
from tests.test_ways_records import BLANK, blank, laid, line, row


def element(new, text, data=None):
    """A row or line with its text and its data."""
    return {**new, "t": text, "d": data}


class ExpandTest(unittest.TestCase):
    def check(self, source, record, items, texts, origins):
        self.assertEqual(expand(laid(source), record), (items, texts, origins), source)

    def test_nothing(self):
        self.check("", BLANK, [], [], [])
        self.assertEqual(expand([], {}), ([], [], []))

    def test_texts(self):
        self.check("<b>\n{{}", BLANK, ["<", "b", ">", "\n", "{", "}"], [], [])

    def test_text_holes(self):
        self.check("{t}", blank(t="abc"), [0], ["abc"], [0])
        self.check("{t}", BLANK, [0], [""], [0])
        self.check("x{t}y", blank(t="<b>\n\"&lt;{t}"), ["x", 0, "y"], ["<b>\n\"&lt;{t}"], [0])

    def test_data_holes(self):
        self.check("{data d}", BLANK, [0], ["null"], [0])
        self.check("{data d}", blank(d="x"), [0], ["\"x\""], [0])
        self.check("{data d}", blank(d={"b": [1, True], "a": "</b>"}), [0], ['{"a":"\\u003c/b>","b":[1,true]}'], [0])

    def test_notations_of_data_of_every_form(self):
        nodes = laid("<{data d}>")
        for value in VALUES + [in_lists(12), in_maps(12), mixed(12), [0] * 499, -10 ** 39]:
            self.assertEqual(expand(nodes, blank(d=value)), (["<", 0, ">"], [model_notation(value)], [0]))

    def test_several_holes(self):
        self.check("{t}{data d}a{t}", blank(t="x", d=[1]), [0, 1, "a", 2], ["x", "[1]", "x"], [0, 1, 2])

    def test_conditions(self):
        source = "{if p}a{t}{else}b{data d}{end}{t}"
        self.check(source, blank(p=True, t="x"), ["a", 0, 1], ["x", "x"], [0, 2])
        self.check(source, blank(t="x"), ["b", 0, 1], ["null", "x"], [1, 2])
        self.check(source, blank(t="x", q=True), ["b", 0, 1], ["null", "x"], [1, 2])

    def test_empty_branches(self):
        self.check("{if p}{end}{if p}{t}{end}{if p}{else}{data d}{end}", blank(p=True), [0], [""], [0])
        self.check("{if p}{end}{if p}{t}{end}{if p}{else}{data d}{end}", BLANK, [0], ["null"], [1])

    def test_conditions_in_conditions(self):
        source = "{if p}{if q}{t}{else}a{t}{end}{else}{if q}b{t}{else}c{t}{end}{end}"
        self.check(source, blank(p=True, q=True), [0], [""], [0])
        self.check(source, blank(p=True), ["a", 0], [""], [1])
        self.check(source, blank(q=True), ["b", 0], [""], [2])
        self.check(source, BLANK, ["c", 0], [""], [3])

    def test_loops(self):
        source = "[{for r in rows}<{r.t}>{data r.d}{end}]{t}"
        self.check(source, blank(t="z"), ["[", "]", 0], ["z"], [2])
        self.check(source, blank(t="z", rows=[element(row(), "x", 1)]), ["[", "<", 0, ">", 1, "]", 2], ["x", "1", "z"], [0, 1, 2])
        self.check(source, blank(t="z", rows=[element(row(), "x", 1), element(row(), "", True), element(row(), "y", "y")]),
                   ["[", "<", 0, ">", 1, "<", 2, ">", 3, "<", 4, ">", 5, "]", 6], ["x", "1", "", "true", "y", "\"y\"", "z"],
                   [0, 1, 0, 1, 0, 1, 2])

    def test_the_record_itself_in_a_loop(self):
        self.check("{for r in rows}{t}{r.t}{end}", blank(t="a", rows=[element(row(), "x"), element(row(), "y")]),
                   [0, 1, 2, 3], ["a", "x", "a", "y"], [0, 1, 0, 1])

    def test_conditions_in_loops(self):
        source = "{for r in rows}{if r.p}{r.t}{else}{if p}-{t}{end}{end}{end}"
        rows = [element(row(True), "x"), element(row(), "y"), element(row(True), "z")]
        self.check(source, blank(t="a", rows=rows), [0, 1], ["x", "z"], [0, 0])
        self.check(source, blank(t="a", p=True, rows=rows), [0, "-", 1, 2], ["x", "a", "z"], [0, 1, 0])

    def test_loops_in_loops(self):
        source = "{for r in rows}({for s in r.inner}{s.t}{if s.q}{r.t}{end},{end}{r.t}){end}"
        rows = [
            element(row(inner=[element(line(), "a"), element(line(True), "b")]), "x"), element(row(), "y"),
            element(row(inner=[element(line(True), "c")]), "z")]
        self.check(source, blank(rows=rows),
                   ["(", 0, ",", 1, 2, ",", 3, ")", "(", 4, ")", "(", 5, 6, ",", 7, ")"],
                   ["a", "b", "x", "x", "y", "c", "z", "z"], [0, 0, 1, 2, 2, 0, 1, 2])

    def test_two_loops_with_one_variable(self):
        self.check("{for r in rows}{r.t}{end}{for r in lines}{r.t}{end}",
                   blank(rows=[element(row(), "a"), element(row(), "b")], lines=[element(line(), "c")]), [0, 1, 2], ["a", "b", "c"], [0, 0, 1])

    def test_two_loops_over_one_list_in_two_branches(self):
        nodes = lay_out(parse_template(
            "{shape p truth, a [n text], b [n text]}{if p}{for r in a}{r.n}{end}{else}{for r in b}{r.n}!{end}{end}"))
        record = {"p": True, "a": [{"n": "x"}, {"n": "y"}], "b": [{"n": "z"}]}
        self.assertEqual(expand(nodes, record), ([0, 1], ["x", "y"], [0, 0]))
        self.assertEqual(expand(nodes, {**record, "p": False}), ([0, "!"], ["z"], [1]))

    def test_parts(self):
        source = "{part a}<i>{slot}{t}</i>{end}{for r in lines}{use a}{r.t}{end}{end}"
        nodes = lay_out(parse_template("{shape t text, lines [t text]}" + source))
        record = {"t": "x", "lines": [{"t": "y"}, {"t": "z"}]}
        turn = lambda first: ["<", "i", ">", first, first + 1, "<", "/", "i", ">"]
        self.assertEqual(expand(nodes, record), (turn(0) + turn(2), ["y", "x", "z", "x"], [0, 1, 0, 1]))

    def test_many_records(self):
        rows = [element(row(inner=[element(line(), str(k))] * 100), "x") for k in range(100)]
        found = expand(laid("{for r in rows}{for s in r.inner}{s.t}{end}{end}"), blank(rows=rows))
        self.assertEqual(found, (list(range(10000)), [str(k) for k in range(100) for _ in range(100)], [0] * 10000))

    def test_deep_nodes(self):
        """Conditions in conditions, deeper than a source may nest them, as parts lay them."""
        part = "{part a}" + "{if p}" * 11 + "x{slot}" + "{end}" * 11 + "{end}"
        source = "{shape p truth, t text}" + part + "{use a}{use a}{use a}{t}{end}{end}{end}"
        nodes = lay_out(parse_template(source))
        self.assertEqual(expand(nodes, {"p": True, "t": "y"}), (["x", "x", "x", 0], ["y"], [0]))
        self.assertEqual(expand(nodes, {"p": False, "t": "y"}), ([], [], []))

    def test_random_templates(self):
        rng = random.Random(18)
        for rows in (LOOSE, SAFE):
            for source in markup_sources(51, 300, rows):
                nodes = lay_out(parse_template(source))
                record = random_record(rng)
                run = Run(nodes, record)
                self.assertEqual(expand(nodes, record), (run.row, run.texts, run.origins), source)

    def test_origins_are_holes_of_the_template(self):
        rng = random.Random(19)
        for source in markup_sources(52, 100, SAFE):
            nodes = lay_out(parse_template(source))
            holes = holes_of(nodes)
            found, texts, origins = expand(nodes, random_record(rng))
            self.assertEqual([item for item in found if isinstance(item, int)], list(range(len(texts))))
            self.assertEqual(len(origins), len(texts))
            self.assertTrue(all(0 <= origin < len(holes) for origin in origins))
            self.assertEqual(len([one for one in program(nodes) if one[0] == "hole"]), len(holes))


class OwnTokensTest(unittest.TestCase):
    def check(self, source, record, *tokens):
        self.assertEqual(own_tokens(laid(source), record), list(tokens))

    def test_nothing(self):
        self.check("", BLANK)

    def test_texts_and_holes(self):
        self.check("a{t}b", blank(t="<x>"), ("text", "a<x>b"))
        self.check("<{t}", blank(t="b>"), ("text", "<b>"))
        self.check("&l{t}", blank(t="t;"), ("text", "&lt;"))
        self.check("<b c={t}>{t}</b>", blank(t="x y"), ("tag", "b", [("c", "x y")]), ("text", "x y"), ("end", "b", []))
        self.check("<b c='{data d}'>", blank(d="it's"), ("tag", "b", [("c", "\"it's\"")]))
        self.check("<script>{data d}</script>", blank(d="</script>"), ("tag", "script", []), ("raw", "\"\\u003c/script>\""), ("end", "script", []))

    def test_texts_that_are_empty(self):
        self.check("{t}", BLANK)
        self.check("<b>{t}</b>", BLANK, ("tag", "b", []), ("end", "b", []))
        self.check("<b c={t}>", BLANK, ("tag", "b", [("c", "")]))
        self.check("<b c={t} d=\"{t}\">", BLANK, ("tag", "b", [("c", ""), ("d", "")]))
        self.check("{t}{t}<!---->{t}", BLANK, ("comment", ""))
        self.check("{t}a{t}", BLANK, ("text", "a"))
        self.check("<{t}", BLANK, ("text", "<"))

    def test_closed_places(self):
        """Own tokens are there, whether some page has them or not."""
        self.check("<b{t}>", blank(t=">"), ("tag", "b>", []))
        self.check("<b {t}>", blank(t="x"), ("tag", "b", [("x", None)]))
        self.check("<!--{t}-->", blank(t="-->"), ("comment", "-->"))
        self.check("<style>{t}</style>", BLANK, ("tag", "style", []), ("end", "style", []))
        self.check("<style>{t}</style>", blank(t="</style>"), ("tag", "style", []), ("raw", "</style>"), ("end", "style", []))

    def test_loops_and_conditions(self):
        source = "<ul>{for r in rows}<li{if r.p} c='{r.t}'{end}>{r.t}{end}</ul>"
        self.check(source, blank(rows=[element(row(True), "a"), element(row(), "b")]),
                   ("tag", "ul", []), ("tag", "li", [("c", "a")]), ("text", "a"), ("tag", "li", []), ("text", "b"), ("end", "ul", []))

    def test_random_templates(self):
        rng = random.Random(20)
        for rows in (LOOSE, SAFE):
            for source in markup_sources(53, 200, rows):
                nodes = lay_out(parse_template(source))
                record = random_record(rng)
                run = Run(nodes, record)
                self.assertEqual(own_tokens(nodes, record), model_own_tokens(run.row, run.texts), source)


def model_own_tokens(row, texts):
    """Points 203 and 204 a second time."""
    join = lambda items: "".join(texts[piece] if isinstance(piece, int) else piece for piece in model_pieces(items))
    return [token for token in model_tokens(model_row_events(row), join) if token[0] not in ("text", "raw") or token[1] != ""]


class AnswersTest(unittest.TestCase):
    def test_arguments_and_later_answers_stay(self):
        nodes = laid("<b>{for r in rows}{r.t}{data r.d}{end}{data d}")
        record = blank(rows=[element(row(), "x", [1, {"a": []}])], d={"b": [2]})
        kept = copy.deepcopy((nodes, record))
        wanted = (["<", "b", ">", 0, 1, 2], ["x", '[1,{"a":[]}]', '{"b":[2]}'], [0, 1, 2])
        found = expand(nodes, record)
        self.assertEqual(found, wanted)
        self.assertIs(type(found), tuple)
        for part in found:
            part.append("changed")
            self.assertEqual(expand(nodes, record), wanted)
        own_tokens(nodes, record)[0][2].append("changed")
        own_tokens(nodes, record).clear()
        self.assertEqual(own_tokens(nodes, record), [("tag", "b", []), ("text", 'x[1,{"a":[]}]{"b":[2]}')])
        self.assertEqual((nodes, record), kept)


if __name__ == "__main__":
    unittest.main()
