"""Points 607 and 703 to 705: pages that read to the own tokens, verdicts on sources, and the order of errors."""

import copy
import random
import unittest

from samepage import errors
from samepage.codings.verdict import certificate, refusal, shows
from samepage.data.records import misfit
from samepage.errors import SamepageError
from samepage.pages.tokens import is_possible, read
from samepage.rendering.expansion import expand, own_tokens
from samepage.rendering.render import check, reason, render
from samepage.templates.laying import holes_of, lay_out
from samepage.templates.source import parse_template, write_template
from tests.common import CHARACTERS, START
from tests.markup import LOOSE, SAFE, SHAPE, WRITTEN, markup_sources, random_record
from tests.model import model_mark_step, model_read, model_step
from tests.test_coding import open_states, wanted_coding
from tests.test_filling import ROWS
from tests.test_ways_records import BLANK, blank, laid, line, row

HEAD = "{shape " + WRITTEN + "}"


def model_page(nodes, record):
    """Point 703, with the codings of points 602 and 603 as the tests have them."""
    row_of_items, texts, _ = expand(nodes, record)
    state = START
    page = ""
    for item in row_of_items:
        if isinstance(item, int):
            prefix, images = wanted_coding(state)
            page += prefix + "".join(dict(images).get(char, char) for char in texts[item])
            state = model_mark_step(state, item)[0]
        else:
            page += item
            state = model_step(state, item)[0]
    return page


class PageTest(unittest.TestCase):
    def check(self, source, record, page):
        self.assertEqual(render(HEAD + source, record), page)
        self.assertEqual(read(page), own_tokens(laid(source), record))
        self.assertIs(check(HEAD + source), True)
        self.assertIsNone(reason(HEAD + source))

    def test_without_holes(self):
        self.check("", BLANK, "")
        self.check("<b>x{{}</b><!--", BLANK, "<b>x{}</b><!--")
        self.assertEqual(render("{shape}", {}), "")
        self.assertEqual(render("{shape}a", {}), "a")

    def test_texts(self):
        self.check("{t}", blank(t="<b>&lt;\"'\n "), "&lt;b>&#38;lt;\"'\n ")
        self.check("{t}", BLANK, "")
        self.check("a{t}b{t}", blank(t="&"), "a&#38;b&#38;")

    def test_behind_something_pending(self):
        self.check("<{t}", blank(t="b"), "<&;b")
        self.check("</{t}", blank(t="b>"), "</&;b>")
        self.check("<!{t}", blank(t="--"), "<!&;--")
        self.check("<!-{t}", blank(t="-"), "<!-&;-")
        self.check("&l{t}", blank(t="t;"), "&l&;t;")
        self.check("&{t}", blank(t=";"), "&&;;")
        self.check("&#3{t}", blank(t="<"), "&#3&;&lt;")
        self.check("<{t}b>", BLANK, "<&;b>")
        self.check("<b c='&#3{t}4;'", blank(t="4;"), "<b c='&#3&;4;4;'")

    def test_values(self):
        self.check("<b c='{t}'>", blank(t="it's & \"<>\n"), "<b c='it&#39;s &#38; \"<>\n'>")
        self.check("<b c=\"{t}\">", blank(t="it's & \"<>\n"), "<b c=\"it's &#38; &#34;<>\n\">")
        self.check("<b c=x{t}>", blank(t="it's & \"<>\n"), "<b c=xit's&#32;&#38;&#32;\"<&gt;&#10;>")
        self.check("<b c={t}>", blank(t="it's & \"<>\n"), "<b c=&;it's&#32;&#38;&#32;\"<&gt;&#10;>")

    def test_behind_an_equals_sign(self):
        self.check("<b c={t}>", BLANK, "<b c=&;>")
        self.check("<b c={t}>", blank(t="\"x\""), "<b c=&;\"x\">")
        self.check("<b c={t} d>", blank(t="'"), "<b c=&;' d>")
        self.check("<b c={t}{t}>", blank(t="/ "), "<b c=&;/&#32;/&#32;>")
        self.check("<b c={t}\">", blank(t="x"), "<b c=&;x\">")

    def test_holes_side_by_side(self):
        self.check("{t}{t}", blank(t="&"), "&#38;&#38;")
        self.check("<{t}{t}", blank(t="b"), "<&;bb")
        self.check("&{t}{t}{data d}", blank(t="", d=1), "&&;1")
        self.check("<b c={t}{data d}{t}", blank(t="", d=" "), "<b c=&;\"&#32;\"")

    def test_data(self):
        self.check("{data d}", blank(d={"a": "<&>"}), "{\"a\":\"\\u003c&#38;>\"}")
        self.check("<b c=\"{data d}\">", blank(d=["x", None]), "<b c=\"[&#34;x&#34;,null]\">")
        self.check("<b c='{data d}'>", blank(d="it's"), "<b c='\"it&#39;s\"'>")
        self.check("<b c={data d}>", blank(d=["a b", ">"]), "<b c=&;[\"a&#32;b\",\"&gt;\"]>")

    def test_data_in_raw_texts(self):
        self.check("<script>x = {data d};</script>", blank(d={"a": "</script>&\"'>\n"}),
                   "<script>x = {\"a\":\"\\u003c/script>&\\\"'>\\n\"};</script>")
        self.check("<style><{data d}</style>", blank(d=-1), "<style><-1</style>")
        self.check("<style></s{data d}yle></style>", blank(d=True), "<style></strueyle></style>")
        self.check("<style></style{data d}>", blank(d=" "), "<style></style\" \">")
        self.check("<script></scrip{data d}>", blank(d=True), "<script></scriptrue>")
        self.check("<script>{data d}{data d}</script>{data d}", blank(d="&"), "<script>\"&\"\"&\"</script>\"&#38;\"")

    def test_another_coding_in_each_turn(self):
        rows = [{**row(), "t": "b"}, {**row(), "t": "b"}, {**row(), "t": "&"}]
        self.check("{for r in rows}{r.t}<{end}", blank(rows=rows), "b<&;b<&;&#38;<")
        self.check("<b c={for r in rows}{r.t}&{end}", blank(rows=rows), "<b c=&;b&&;b&&;&#38;&")
        self.check("<b c={for r in rows}{r.t}{end}>", blank(rows=rows), "<b c=&;bb&#38;>")

    def test_another_coding_with_another_answer(self):
        source = "<b c={if p}\"{else}{if q}'{end}{end}{t}"
        for record, page in [
            (blank(p=True, t="'\" "), "<b c=\"'&#34; "), (blank(q=True, t="'\" "), "<b c='&#39;\" "), (blank(t="'\" "), "<b c=&;'\"&#32;")
        ]:
            self.check(source, record, page)

    def test_the_example_of_the_document(self):
        self.assertEqual(
            render("{shape name text}<a title='{name}'>{name}</a>", {"name": "it's <b>"}), "<a title='it&#39;s <b>'>it's &lt;b></a>")

    def test_parts(self):
        source = "{shape t text, rows [n text]}{part cell}<td>{slot}</td>{end}{for r in rows}{use cell}{r.n}{t}{end}{end}"
        record = {"t": "&", "rows": [{"n": "<"}, {"n": ""}]}
        self.assertEqual(render(source, record), "<td>&lt;&#38;</td><td>&#38;</td>")

    def test_texts_of_every_sign(self):
        text = "".join(CHARACTERS)
        for front in ["", "<", "&am", "<b>", "<b c=", "<b c=x", "<b c=\"", "<b c='", "<b c=\"&#1"]:
            for one in CHARACTERS + [text, text[::-1], "\n" * 200, "&" * 200]:
                for back in ["", "b", ";", ">"]:
                    source = front + "{t}" + back
                    page = render(HEAD + source, blank(t=one))
                    self.assertEqual(model_read(page), own_tokens(laid(source), blank(t=one)), (source, one))

    def test_each_open_state(self):
        for state in open_states():
            front = "".join(ROWS[state])
            for source, text in [(front + "{t}", "<b>"), (front + "{t}{t}x", ";"), (front + "{t}", ""), (front + "{t}{data d}\">", "t; '")]:
                record = blank(t=text, d=["&lt;"])
                page = render(HEAD + source, record)
                self.assertEqual(page, model_page(laid(source), record))
                self.assertEqual(model_read(page), own_tokens(laid(source), record), (source, text))

    def test_many_records(self):
        source = "<p>{for r in rows}{for s in r.inner}<{s.t}{end}{end}"
        rows = [row(inner=[{**line(), "t": "b"}] * 30)] * 100
        self.check(source, blank(rows=rows), "<p>" + "<&;b" * 3000)

    def test_a_long_page(self):
        source = "{for r in rows}{r.t}{end}"
        page = render(HEAD + source, blank(rows=[{**row(), "t": "<" * 200}] * 20))
        self.assertEqual(page, "&lt;" * 4000)

    def test_random_templates(self):
        """Every page reads to the own tokens, and no coding differs from the one of the document."""
        rng = random.Random(21)
        for rows, many in ((LOOSE, 700), (SAFE, 500)):
            accepted = 0
            for source in markup_sources(61, many, rows):
                if not check(source):
                    continue
                accepted += 1
                nodes = lay_out(parse_template(source))
                for _ in range(3):
                    record = random_record(rng)
                    page = render(source, record)
                    self.assertEqual(page, model_page(nodes, record), source)
                    self.assertEqual(model_read(page), own_tokens(nodes, record), (source, record))
                    self.assertEqual(read(page), own_tokens(nodes, record))
            self.assertGreater(accepted, 300)


class RefusedTest(unittest.TestCase):
    def check(self, source, hole, at, record):
        self.assertIs(check(source), False)
        self.assertEqual(reason(source), (hole, at, record))
        for given in (record, {}, {"zz": 1}):
            with self.assertRaises(SamepageError) as caught:
                render(source, given)
            self.assertEqual((type(caught.exception), caught.exception.at), (errors.Refused, hole))
        shape, _, _ = template = parse_template(source)
        self.assertIsNone(misfit(record, shape))
        self.assertIs(is_possible(own_tokens(lay_out(template), record)), False)

    def test_each_closed_place(self):
        for front, hopeless in [
            ("<b", ">"), ("</b", ">"), ("<b ", ">"), ("<b c", ">"), ("<b c=''", ">"), ("<!--", "-->"), ("<!---", "-->"), ("<script", ">"),
            ("<script>", "</script>"), ("<style>", "</style>"), ("<style></s", "</style>"),
        ]:
            source = "{shape t text}" + front + "{t}"
            self.check(source, 0, source.index("{t}"), {"t": hopeless})
            source = "{shape d data, t text}{t}" + front + "{data d}"
            if "script>" not in front and "style>" not in front:
                self.check(source, 1, source.index("{data d}"), {"d": hopeless, "t": ""})

    def test_the_hole_and_the_index(self):
        source = "{shape t text, d data}<b>{t}</b{data d}{t}"
        self.check(source, 1, source.index("{data d}"), {"t": "", "d": ">"})
        source = "{shape p truth, t text}{if p}{t}{else}{t}{end}<b{t}"
        self.check(source, 2, source.rindex("{t}"), {"p": False, "t": ">"})

    def test_braces_before_the_hole(self):
        source = "{shape t text}{{{{<b{t}"
        self.check(source, 0, 20, {"t": ">"})

    def test_a_hole_in_a_part(self):
        source = "{shape t text}{part a}x{t}{end}<b>{use a}{end}<i{use a}{end}"
        self.check(source, 1, source.index("{t}"), {"t": ">"})
        source = "{shape t text, u text}{part a}<!--{slot}{end}{t}{use a}{u}{t}{end}"
        self.check(source, 1, source.index("{u}"), {"t": "", "u": "-->"})
        source = "{shape t text}{part a}{t}{end}{part b}{use a}{end}<!--{use a}{end}{end}{use b}{end}"
        self.check(source, 1, source.index("{t}"), {"t": "-->"})

    def test_a_hole_in_a_loop(self):
        source = "{shape t text, rows [t text, p truth]}{for r in rows}{if r.p}<b{r.t}{end}{end}"
        self.check(source, 0, source.index("{r.t}"), {"t": "", "rows": [{"t": ">", "p": True}]})

    def test_random_templates(self):
        """For each refused template, no page has the own tokens of the record of its refusal."""
        count = 0
        for source in markup_sources(62, 1200, LOOSE):
            shape, _, _ = template = parse_template(source)
            nodes = lay_out(template)
            found = refusal(shape, nodes)
            self.assertIs(check(source), found is None)
            if found is None:
                self.assertIsNone(reason(source))
                self.assertIs(shows(nodes, certificate(nodes)), True)
                continue
            count += 1
            hole, _, record = found
            self.check(source, hole, holes_of(nodes)[hole][2], record)
        self.assertGreater(count, 150)


class ErrorsTest(unittest.TestCase):
    def check(self, error, at, source, record=None):
        calls = [lambda: check(source), lambda: reason(source)]
        if error in (errors.Refused, errors.Misfit):
            calls = []
        for call in calls + [lambda: render(source, {} if record is None else record)]:
            with self.assertRaises(SamepageError) as caught:
                call()
            self.assertEqual((type(caught.exception), caught.exception.at), (error, at), source)

    def test_errors_of_sources(self):
        self.check(errors.BadDirective, 0, "")
        self.check(errors.BadDirective, 0, "x")
        self.check(errors.BadDirective, 7, "{shape}{x y}")
        self.check(errors.TakenName, 0, "{shape a text, a text}")
        self.check(errors.Misplaced, 7, "{shape}{end}")
        self.check(errors.Unclosed, 15, "{shape p truth}{if p}")
        self.check(errors.TooDeep, 15 + 12 * 6, "{shape p truth}" + "{if p}" * 13 + "{end}" * 13)

    def test_errors_of_laying_out(self):
        self.check(errors.UnknownPart, 7, "{shape}{use a}{end}")
        self.check(errors.UnknownName, 7, "{shape}{t}")
        self.check(errors.WrongKind, 14, "{shape t data}{t}")
        for error, source, sign in [
            (errors.FarList, "{shape a [n text], b []}{for x in a}<b{for y in b}{end}{end}", "{for y"),
            (errors.ListTwice, "{shape a []}{for x in a}{end}<b{for y in a}{end}", "{for y"),
            (errors.TakenName, "{shape a [b []]}{for x in a}{for x in x.b}{end}{end}", "{for x in x.b}"),
        ]:
            self.check(error, source.index(sign), source)

    def test_templates_that_are_too_large(self):
        truths = ", ".join(name + " truth" for name in "abcdefg")
        source = "{shape " + truths + "}" + "".join("{if " + name + "}{end}" for name in "abcdefg")
        self.check(errors.TooManyTruths, source.index("{if g}"), source)
        # Four uses of ten conditions each, and one more condition.
        source = "{shape p truth}{part a}" + "{if p}" * 9 + "{slot}" + "{end}" * 10 + "{use a}" * 4 + "{if p}{end}" + "{end}" * 4
        self.check(errors.TooDeep, 23 + 6 * 6, source)
        source = "{shape p truth}{part a}" + "{if p}{end}" * 99 + "{end}" + "{use a}{end}" * 20
        self.assertIs(check(source), True)
        self.check(errors.TooLarge, len(source), source + "{if p}{end}")

    def test_sources_before_laying_out(self):
        """The name is unknown, but the source has no end."""
        self.check(errors.Unclosed, 10, "{shape}{t}{if p}")
        self.check(errors.BadDirective, 10, "{shape}{t}{")
        self.check(errors.TakenName, 0, "{shape a text, a text}{t}")

    def test_laying_out_before_the_verdict(self):
        """The first hole is refused, and a later one is unknown."""
        source = "{shape t text}<b{t}{u}"
        self.check(errors.UnknownName, source.index("{u}"), source)
        self.check(errors.UnknownName, source.index("{u}"), source, {"t": 1})
        source = "{shape t text}<b{t}{data t}"
        self.check(errors.WrongKind, source.index("{data"), source, {"t": ""})

    def test_sources_before_the_verdict(self):
        self.check(errors.BadDirective, 19, "{shape t text}<b{t}{", {"t": ""})

    def test_the_verdict_before_the_record(self):
        for record in [{}, {"t": None}, {"t": "", "u": ""}]:
            self.check(errors.Refused, 0, "{shape t text}<b{t}", record)
            self.check(errors.Refused, 1, "{shape t text}{t}<!--{t}{t}", record)

    def test_sources_before_the_record(self):
        self.check(errors.UnknownName, 14, "{shape t text}{u}", {"t": 1})
        self.check(errors.Misplaced, 14, "{shape t text}{else}", {"t": 1})

    def test_records(self):
        source = HEAD + "<b>{t}</b>"
        for record in [
            {}, {**BLANK, "t": None}, {**BLANK, "t": "a" * 201}, {**BLANK, "t": chr(37)}, {**BLANK, "p": 1}, {**BLANK, "d": (1,)},
            {**BLANK, "d": 10 ** 40}, {**BLANK, "rows": [row()] * 101}, {**BLANK, "rows": [{}]}, {**BLANK, "zz": 1}, {**BLANK, "rows": None},
            {**BLANK, "lines": [{**line(), "q": 0}]}, {name: BLANK[name] for name in BLANK if name != "q"},
        ]:
            self.check(errors.Misfit, 0, source, record)
        self.assertEqual(render(source, {**BLANK, "t": "a" * 200, "rows": [row()] * 100}), "<b>" + "a" * 200 + "</b>")
        self.check(errors.Misfit, 0, "{shape}", {"a": 1})

    def test_records_that_misfit_where_the_template_does_not_look(self):
        self.check(errors.Misfit, 0, "{shape a text, b []}x", {"a": "", "b": [{"c": 1}]})


class PartsTest(unittest.TestCase):
    """Points 305, 306 and 309 with 704: with parts and slots, and without them."""

    def same(self, source, other, record):
        self.assertIs(check(source), check(other), source)
        if check(source):
            self.assertEqual(render(source, record), render(other, record), source)
            self.assertIsNone(reason(other))
        else:
            hole, at, found = reason(source)
            other_hole, other_at, other_found = reason(other)
            self.assertEqual((hole, found), (other_hole, other_found), source)
            self.assertEqual(holes_of(lay_out(parse_template(source)))[hole][:2], holes_of(lay_out(parse_template(other)))[hole][:2])
            self.assertIn(source[at], "{")
            self.assertEqual(source[at:source.index("}", at)], other[other_at:other.index("}", other_at)])

    def test_some_sources(self):
        head = "{shape t text, p truth, rows [n text]}"
        for with_parts, without in [
            ("{part a}<b>{t}</b>{end}{use a}{end}x{use a}{end}", "<b>{t}</b>x<b>{t}</b>"),
            ("{part a}<i>{slot}</i>{end}{use a}{t}{end}", "<i>{t}</i>"),
            ("{part a}<{slot}{end}{use a}{end}{t}", "<{t}"),
            ("{part a}<{slot}{end}{use a}b{end}{t}", "<b{t}"),
            ("{part a}<{slot}{slot}{end}{use a}{t}{end}", "<{t}{t}"),
            ("{part a}({slot}){end}{part b}{use a}<b c={slot}>{end}{end}{use b}{t}{end}", "(<b c={t}>)"),
            ("{part a}{if p}<!--{slot}{end}{end}{for r in rows}{use a}{r.n}{end}{end}", "{for r in rows}{if p}<!--{r.n}{end}{end}"),
            ("{part a}{if p}<{slot}{end}{end}{for r in rows}{use a}{r.n}{end}{end}", "{for r in rows}{if p}<{r.n}{end}{end}"),
            ("{part a}{{{slot}{end}{use a}{{{end}{t}", "{{{{{t}"),
            ("{part a}&l{end}{use a}{end}{t}", "&l{t}"),
            ("{part a}{end}{use a}{t}{end}{t}", "{t}"),
        ]:
            for record in [{"t": "b>", "p": True, "rows": [{"n": "t;"}, {"n": "<"}]}, {"t": "", "p": False, "rows": []}]:
                self.same(head + with_parts, head + without, record)

    def test_random_sources(self):
        rng = random.Random(22)
        counts = [0, 0]
        for rows in (LOOSE, SAFE):
            for source in markup_sources(63, 700, rows):
                shape, parts, _ = template = parse_template(source)
                if parts == []:
                    continue
                other = write_template((shape, [], lay_out(template)))
                self.same(source, other, random_record(rng))
                counts[check(source)] += 1
        self.assertGreater(min(counts), 60)


class AnswersTest(unittest.TestCase):
    def test_arguments_and_later_answers_stay(self):
        source = "{shape t text, rows [n text, d data]}{t}{for r in rows}<b c={r.n}>{data r.d}{end}"
        record = {"t": "x", "rows": [{"n": "&", "d": [1, {"a": []}]}]}
        kept = copy.deepcopy(record)
        page = render(source, record)
        self.assertEqual(record, kept)
        self.assertEqual(page, "x<b c=&;&#38;>[1,{\"a\":[]}]")
        self.assertIs(type(page), str)
        self.assertEqual(render(source, record), page)
        refused = "{shape rows [n text, more []]}<b{for r in rows}{r.n}{end}"
        wanted = (0, refused.index("{r.n}"), {"rows": [{"n": ">", "more": []}]})
        found = reason(refused)
        self.assertEqual(found, wanted)
        self.assertIs(type(found), tuple)
        found[2]["rows"][0]["more"].append(1)
        found[2]["rows"].clear()
        self.assertEqual(reason(refused), wanted)

    def test_the_shape_of_the_tests(self):
        self.assertEqual(parse_template(HEAD)[0], SHAPE)


if __name__ == "__main__":
    unittest.main()
