"""Points 507 and 509: the record of a way, and whether a record takes a way."""

import copy
import random
import unittest

from samepage.data.records import misfit
from samepage.templates.shapes import parse_shape
from samepage.templates.laying import lay_out
from samepage.templates.source import parse_template
from samepage.ways.program import program
from samepage.ways.reach import first_situations, following, reachable, way_to
from samepage.ways.records import record_of, takes
from tests.common import START
from tests.markup import SHAPE, WRITTEN, random_record
from tests.model_ways import situations_of
from tests.test_reach import small_programs, text

P, Q = ("", "p"), ("", "q")
RP = ("r", "p")
SQ = ("s", "q")

# What a record of the shape has beside its lists, where nothing is fixed.
BLANK = {"t": "", "d": None, "p": False, "q": False, "rows": [], "lines": []}


def blank(**changes):
    return {**BLANK, **changes}


def row(p=False, inner=()):
    return {"t": "", "d": None, "p": p, "inner": list(inner)}


def line(q=False):
    return {"t": "", "d": None, "q": q}


def laid(source, shape=WRITTEN):
    return lay_out(parse_template("{shape " + shape + "}" + source))


def lessened(record, shape):
    """The record with one element less, or one truth that is False instead of True, in each place."""
    for name, kind in shape:
        value = record[name]
        if isinstance(kind, list):
            for at in range(len(value)):
                yield {**record, name: value[:at] + value[at + 1:]}
                for less in lessened(value[at], kind):
                    yield {**record, name: value[:at] + [less] + value[at + 1:]}
        elif value is True:
            yield {**record, name: False}


def texts_and_data(record, shape):
    for name, kind in shape:
        if isinstance(kind, list):
            for element in record[name]:
                yield from texts_and_data(element, kind)
        elif kind != "truth":
            yield kind, record[name]


class RecordOfTest(unittest.TestCase):
    def check(self, source, numbers, wanted, *turns):
        """The way goes to the instructions with these numbers, with the answers of the turns that it begins."""
        nodes = laid(source)
        instructions = program(nodes)
        way = way_along(instructions, numbers, turns)
        record = record_of(SHAPE, instructions, way)
        self.assertEqual(record, wanted, source)
        self.assertIsNone(misfit(record, SHAPE))
        self.assertIs(takes(instructions, record, way), True)
        self.assertEqual(situations_of(nodes, record)[:len(way)], way)

    def test_one_situation(self):
        self.check("", [0], BLANK)
        self.check("x{t}", [0], BLANK)
        self.check("{if p}{end}", [0], BLANK, {P: False})
        self.check("{if p}{end}", [0], blank(p=True), {P: True})
        self.check("{if q}{end}{if p}{end}", [0], blank(q=True), {P: False, Q: True})
        self.check("{for r in rows}x{end}", [0], BLANK)

    def test_texts_and_data(self):
        self.check("x{t}{data d}", [0, 1, 2, 3], BLANK)

    def test_truths_that_no_answer_fixes(self):
        self.check("{if p}x{end}", [0, 1, 2, 3], blank(p=True), {P: True})
        self.check("{if p}x{else}y{end}", [0, 3, 4], BLANK, {P: False})
        self.check("{for r in rows}{end}", [0, 1], blank(rows=[row()]), {}, {})

    def test_loops_that_are_not_entered(self):
        self.check("{for r in rows}x{end}", [0, 3], BLANK)
        self.check("{for r in rows}{if r.p}{end}{end}{for r in lines}{end}", [0, 4, 6], BLANK)
        self.check("{if p}{for r in rows}x{end}{end}", [0, 5], BLANK, {P: False})

    def test_turns_that_are_begun(self):
        self.check("{for r in rows}x{end}", [0, 1], blank(rows=[row()]), {}, {})
        self.check("{for r in rows}x{end}", [0, 1, 2], blank(rows=[row()]), {}, {})
        self.check("{for r in rows}{if r.p}{end}{end}", [0, 1], blank(rows=[row(True)]), {}, {RP: True})
        self.check("{for r in rows}{if r.p}{end}{end}", [0, 1], blank(rows=[row()]), {}, {RP: False})

    def test_turns_that_are_ended(self):
        self.check("{for r in rows}x{end}y", [0, 1, 2, 0], blank(rows=[row()]), {}, {})
        self.check("{for r in rows}x{end}y", [0, 1, 2, 0, 3], blank(rows=[row()]), {}, {})
        self.check("{for r in rows}x{end}y", [0, 1, 2, 0, 3, 4], blank(rows=[row()]), {}, {})

    def test_a_way_that_ends_within_a_turn(self):
        self.check("{for r in rows}{if r.p}x{end}{end}", [0, 1, 2, 3, 4, 0, 1, 4, 0, 1, 2],
                   blank(rows=[row(True), row(), row(True)]), {}, {RP: True}, {RP: False}, {RP: True})
        self.check("{for r in rows}x{end}", [0, 1, 2, 0, 1, 2, 0, 1], blank(rows=[row(), row(), row()]), {}, {}, {}, {})

    def test_lists_in_lists(self):
        source = "{for r in rows}{for s in r.inner}{if s.q}{end}{end}{end}"
        self.check(source, [0, 1, 5, 0, 6], blank(rows=[row()]), {}, {})
        self.check(source, [0, 1, 2], blank(rows=[row(inner=[line(True)])]), {}, {}, {SQ: True})
        self.check(source, [0, 1, 2, 4, 1, 2, 3, 4, 1, 5, 0, 1, 5, 0, 1, 2, 4, 1, 5, 0, 1, 2],
                   blank(rows=[row(inner=[line(), line(True)]), row(), row(inner=[line()]), row(inner=[line(True)])]),
                   {}, {}, {SQ: False}, {SQ: True}, {}, {}, {SQ: False}, {}, {SQ: True})

    def test_answers_of_several_depths(self):
        source = "{if p}{end}{for r in rows}{if r.p}{end}{for s in r.inner}{if s.q}{end}{if r.p}{end}{if q}{end}{end}{end}"
        self.check(source, [0, 1, 2, 3, 4, 5, 6, 8, 9, 10, 12, 5, 6, 7, 8, 9],
                   blank(p=True, rows=[row(True, [line(), line(True)])]),
                   {P: True, Q: False}, {RP: True}, {SQ: False}, {SQ: True})

    def test_two_lists(self):
        self.check("{for r in rows}{end}{for r in lines}{if r.q}{end}{end}", [0, 1, 0, 1, 0, 2, 3, 4, 5, 2, 3],
                   blank(rows=[row(), row()], lines=[line(True), line()]), {}, {}, {}, {("r", "q"): True}, {("r", "q"): False})

    def test_two_loops_over_one_list_in_two_branches_of_an_outer_turn(self):
        nodes = [("if", P, [("for", "r", ("", "a"), [("text", "x")], 1)], [("for", "s", ("", "b"), [], 1)], 1)]
        instructions = program(nodes)
        shape = parse_shape("p truth, a [n text], b [n data]")
        for truth, numbers, wanted in [
            (True, [0, 1, 2, 3, 1, 2], {"p": True, "a": [{"n": ""}, {"n": ""}], "b": []}),
            (False, [0, 5, 6, 5, 7], {"p": False, "a": [], "b": [{"n": None}]}),
        ]:
            way = way_along(instructions, numbers, [{P: truth}] + [{}] * 2)
            self.assertEqual(record_of(shape, instructions, way), wanted)

    def test_the_empty_shape(self):
        instructions = program([("text", "ab")])
        self.assertEqual(record_of([], instructions, way_to(instructions, (2, (), START))), {})

    def test_a_hundred_turns(self):
        way = [(0, (), START)] + [(number, (), START) for _ in range(100) for number in (1, 0)] + [(2, (), START)]
        instructions = program([("for", "r", ("", "rows"), [], 0)])
        record = record_of(SHAPE, instructions, way)
        self.assertEqual(record, blank(rows=[row()] * 100))
        self.assertIs(takes(instructions, record, way), True)

    def test_the_record_of_the_way_to_each_reachable_situation(self):
        rng = random.Random(8)
        for nodes, instructions in small_programs(25, 100, 700):
            found = reachable(instructions)
            for situation in rng.sample(found, min(len(found), 8)):
                self.check_least(nodes, instructions, way_to(instructions, situation))

    def test_the_record_of_ways_of_records(self):
        """Ways that are longer than the search's ways, with several turns."""
        rng = random.Random(9)
        count = 0
        for nodes, instructions in small_programs(26, 120, 3000):
            situations = situations_of(nodes, random_record(rng))
            if len(situations) > 300:
                continue
            count += 1
            for size in {1, len(situations), rng.randrange(len(situations)) + 1}:
                self.check_least(nodes, instructions, situations[:size])
        self.assertGreater(count, 150)

    def check_least(self, nodes, instructions, way):
        """The record takes the way, and no record with an element or a True less does."""
        record = record_of(SHAPE, instructions, way)
        self.assertIsNone(misfit(record, SHAPE), nodes)
        self.assertIs(takes(instructions, record, way), True, (nodes, way))
        self.assertEqual(situations_of(nodes, record)[:len(way)], way, nodes)
        self.assertTrue(all(value == "" if kind == "text" else value is None for kind, value in texts_and_data(record, SHAPE)))
        for less in lessened(record, SHAPE):
            self.assertNotEqual(situations_of(nodes, less)[:len(way)], way, nodes)
            self.assertIs(takes(instructions, less, way), False, nodes)


def way_along(instructions, numbers, turns):
    """The way over the instructions with these numbers; the first answers and those of each turn are given."""
    turns = list(turns) or [{}]
    first = turns.pop(0)
    way = [next(one for one in first_situations(instructions) if dict(one[1]) == first)]
    for number in numbers[1:]:
        choices = [one for one in following(instructions, way[-1]) if one[0] == number]
        kind = instructions[way[-1][0]][0]
        if kind == "for" and number == way[-1][0] + 1:
            more = turns.pop(0)
            choices = [one for one in choices if dict(one[1]) == {**dict(way[-1][1]), **more}]
        assert len(choices) == 1, (numbers, number, choices)
        way += choices
    assert way[0][0] == numbers[0] and (turns == [] or not any(turns))
    return way


class TakesTest(unittest.TestCase):
    def setUp(self):
        self.nodes = laid("{if p}<b{end}{for r in rows}{if r.p}<{end}{for s in r.inner}{s.t}{end}{end}{data d}")
        self.instructions = program(self.nodes)

    def takes(self, record, way, instructions=None):
        return takes(self.instructions if instructions is None else instructions, record, way)

    def check_beginnings(self, instructions, record, situations):
        """Every beginning is taken; nothing that is not a beginning is."""
        for size in range(len(situations) + 1):
            self.assertIs(self.takes(record, situations[:size], instructions), True)
        self.assertIs(self.takes(record, situations + situations[-1:], instructions), False)
        self.assertIs(self.takes(record, situations + [(len(instructions), (), START)], instructions), False)
        self.assertIs(self.takes(record, situations + [(0, (), START)], instructions), False)
        for at, situation in enumerate(situations):
            number, fixed, (place, element, pending) = situation
            for other in [
                (number + 1, fixed, situation[2]), (number - 1, fixed, situation[2]), (number, fixed, (place, element, pending + "&")),
                (number, fixed, ("raw", "style", "")), (number, fixed + ((P, True),), situation[2]),
                *[(number, fixed[:k] + ((path, not truth),) + fixed[k + 1:], situation[2]) for k, (path, truth) in enumerate(fixed)],
                *[(number, fixed[:k] + fixed[k + 1:], situation[2]) for k in range(len(fixed))],
            ]:
                self.assertIs(self.takes(record, situations[:at] + [other] + situations[at + 1:], instructions), False)
                self.assertIs(self.takes(record, situations[:at] + [other], instructions), False)
            doubled = situations[:at + 1] + situations[at:]
            self.assertIs(self.takes(record, doubled, instructions), False)
            if at < len(situations) - 1:
                self.assertIs(self.takes(record, situations[:at] + situations[at + 1:], instructions), False)

    def test_the_empty_list(self):
        self.assertIs(self.takes(BLANK, []), True)
        self.assertIs(self.takes(blank(p=True, rows=[row()]), []), True)
        self.assertIs(self.takes({}, [], program([])), True)

    def test_the_empty_template(self):
        self.check_beginnings(program([]), {}, [(0, (), START)])

    def test_records_of_one_template(self):
        for record in [
            BLANK, blank(p=True), blank(rows=[row()]), blank(rows=[row(True)]), blank(rows=[row(), row(True)]), blank(q=True, t="x"),
            blank(rows=[row(inner=[line()])]), blank(p=True, rows=[row(True, [line(), line()]), row(), row(False, [line(True)])], d=[1]),
        ]:
            self.check_beginnings(self.instructions, record, situations_of(self.nodes, record))

    def test_conditions_in_the_record_itself(self):
        instructions = program(laid("{if p}x{end}"))
        for truth in (False, True):
            way = [(0, ((P, truth),), START), (1 if truth else 3, ((P, truth),), START)]
            self.assertIs(self.takes(blank(p=truth), way, instructions), True)
            self.assertIs(self.takes(blank(p=not truth), way, instructions), False)
            self.assertIs(self.takes(blank(p=not truth), way[:1], instructions), False)

    def test_conditions_in_elements(self):
        instructions = program(laid("{for r in rows}{if r.p}x{end}{end}"))
        yes, no = ((RP, True),), ((RP, False),)
        way = [(0, (), START), (1, yes, START), (2, yes, START), (3, yes, START), (4, yes, START), (0, (), START), (1, no, START)]
        self.assertIs(self.takes(blank(rows=[row(True), row()]), way, instructions), True)
        self.assertIs(self.takes(blank(rows=[row(True), row(), row(True)]), way, instructions), True)
        self.assertIs(self.takes(blank(rows=[row(), row(True)]), way, instructions), False)
        self.assertIs(self.takes(blank(rows=[row(True), row(True)]), way, instructions), False)
        self.assertIs(self.takes(blank(p=True, rows=[row(), row()]), way, instructions), False)
        self.assertIs(self.takes(blank(rows=[row(True)]), way, instructions), False)
        self.assertIs(self.takes(BLANK, way[:1], instructions), True)
        self.assertIs(self.takes(BLANK, way[:2], instructions), False)

    def test_lists_that_are_empty(self):
        instructions = program(laid("{for r in rows}x{end}y"))
        self.assertIs(self.takes(BLANK, [(0, (), START), (3, (), START), (4, (), START)], instructions), True)
        self.assertIs(self.takes(BLANK, [(0, (), START), (1, (), START)], instructions), False)
        self.assertIs(self.takes(blank(rows=[row()]), [(0, (), START), (3, (), START)], instructions), False)
        self.assertIs(self.takes(blank(lines=[line()]), [(0, (), START), (1, (), START)], instructions), False)

    def test_a_list_for_each_turn(self):
        """The inner lists differ in length, and the inner loop is left and reached again."""
        nodes = laid("{for r in rows}{for s in r.inner}<{end}{end}")
        instructions = program(nodes)
        for sizes in [[0, 2], [2, 0], [1, 2, 1], [3], [0, 0], [2, 2]]:
            record = blank(rows=[row(inner=[line()] * size) for size in sizes])
            self.check_beginnings(instructions, record, situations_of(nodes, record))

    def test_the_state(self):
        instructions = program(laid("<{t}"))
        way = [(0, (), START), (1, (), text("<")), (2, (), START)]
        self.assertIs(self.takes(BLANK, way, instructions), True)
        self.assertIs(self.takes(BLANK, way[:2] + [(2, (), text("<"))], instructions), False)
        self.assertIs(self.takes(BLANK, [(0, (), text("<"))], instructions), False)

    def test_random_templates(self):
        rng = random.Random(10)
        for nodes, instructions in small_programs(27, 150, 2000):
            record = random_record(rng)
            situations = situations_of(nodes, record)
            self.assertIs(self.takes(record, situations, instructions), True, nodes)
            self.assertIs(self.takes(record, situations[:rng.randrange(len(situations))], instructions), True, nodes)
            other = random_record(rng)
            shared = situations_of(nodes, other) == situations
            self.assertIs(self.takes(other, situations, instructions), shared, nodes)


class AnswersTest(unittest.TestCase):
    def test_arguments_and_later_answers_stay(self):
        shape = parse_shape(WRITTEN)
        nodes = laid("{for r in rows}{if r.p}x{end}{for s in r.inner}{end}{end}")
        instructions = program(nodes)
        record = blank(rows=[row(True, [line(), line()]), row()])
        way = situations_of(nodes, record)
        kept = copy.deepcopy((shape, instructions, record, way))
        found = record_of(shape, instructions, way)
        self.assertEqual(found, record)
        found["rows"][0]["inner"].append("changed")
        found["rows"].clear()
        found["lines"].append(1)
        self.assertEqual(record_of(shape, instructions, way), record)
        self.assertIs(takes(instructions, record, way), True)
        self.assertEqual((shape, instructions, record, way), kept)

    def test_elements_are_different_dicts(self):
        nodes = laid("{for r in rows}{for s in r.inner}{end}{end}")
        way = situations_of(nodes, blank(rows=[row(inner=[line()]), row(inner=[line()])]))
        found = record_of(SHAPE, program(nodes), way)
        found["rows"][0]["p"] = True
        found["rows"][0]["inner"].append(line())
        self.assertEqual(found["rows"][1], row(inner=[line()]))


if __name__ == "__main__":
    unittest.main()
