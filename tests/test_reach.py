"""Points 501 and 505 to 508: situations, what follows them, and the search for those that are reachable."""

import copy
import itertools
import random
import unittest

from samepage.errors import NotReached, SamepageError
from samepage.templates.laying import lay_out
from samepage.templates.source import parse_template
from samepage.ways.program import program
from samepage.ways.reach import first_situations, following, reachable, way_to
from tests.common import START
from tests.markup import LOOSE, SAFE, WRITTEN, markup_sources, random_record
from tests.model_ways import model_first, model_following, model_reachable, model_way, questions_at, situations_of
from tests.test_program import condition, loop

P, Q = ("", "p"), ("", "q")
RP, RQ = ("r", "p"), ("r", "q")
SP = ("s", "p")
INNER = ("r", "inner")


def laid(source):
    """The nodes of a source that begins behind the shape."""
    return lay_out(parse_template("{shape " + WRITTEN + "}" + source))


def text(pending=""):
    return ("text", "", pending)


def answers(paths, *truths):
    return tuple(zip(paths, truths))


def all_answers(*paths):
    """Each combination of answers, those that come first with False first."""
    return [answers(paths, *row) for row in itertools.product([False, True], repeat=len(paths))]


def small_programs(seed, many, most):
    """The nodes and programs of so many random templates with at most so many reachable situations."""
    found = []
    for rows in (LOOSE, SAFE):
        for source in markup_sources(seed, many, rows):
            nodes = lay_out(parse_template(source))
            instructions = program(nodes)
            if len(reachable(instructions)) <= most:
                found.append((nodes, instructions))
    return found


class FirstTest(unittest.TestCase):
    def check(self, nodes, *rows):
        self.assertEqual(first_situations(program(nodes)), [(0, row, START) for row in rows])

    def test_without_questions(self):
        self.check([], ())
        self.check([("text", "<b>")], ())
        self.check([loop([condition([], [], RP)])], ())

    def test_one_question(self):
        self.check([condition([], [])], ((P, False),), ((P, True),))
        self.check([condition([], []), condition([condition([], [])], [])], ((P, False),), ((P, True),))

    def test_several_questions(self):
        wanted = [((P, False), (Q, False)), ((P, False), (Q, True)), ((P, True), (Q, False)), ((P, True), (Q, True))]
        self.check([condition([], [], Q), condition([], [], P)], *wanted)
        self.check([loop([condition([], [], Q), condition([], [], RP)]), condition([], [], P)], *wanted)

    def test_six_questions(self):
        paths = [("", name) for name in "abcdef"]
        nodes = [condition([], [], path) for path in reversed(paths)]
        self.check(nodes, *all_answers(*paths))
        found = first_situations(program(nodes))
        self.assertEqual(len(found), 64)
        self.assertEqual(found, sorted(found))

    def test_the_answers_are_tuples(self):
        for _, row, _ in first_situations(program([condition([], []), condition([], [], Q)])):
            self.assertIs(type(row), tuple)
            for path, truth in row:
                self.assertIs(type(path), tuple)
                self.assertIs(type(truth), bool)


class FollowingTest(unittest.TestCase):
    def check(self, nodes, situation, *wanted):
        self.assertEqual(following(program(nodes), situation), list(wanted))

    def test_stop(self):
        self.check([], (0, (), START))
        self.check([("text", "a")], (1, (), text("&l")))
        self.check([condition([], [])], (2, ((P, True),), START))

    def test_characters(self):
        nodes = [("text", "a<b>&l")]
        states = [text(), text(), text("<"), ("tag", "-", ""), text(), text("&"), text("&l")]
        for number, (state, after) in enumerate(zip(states, states[1:])):
            self.check(nodes, (number, (), state), (number + 1, (), after))

    def test_characters_in_each_place(self):
        for state, char, after in [
            (text("<!-"), "-", ("comment", "", "")), (("comment", "", "--"), ">", START), (("tag", "scrip", ""), "t", ("tag", "script", "")),
            (("gap", "-", ""), "a", ("name", "-", "")), (("name", "style", ""), "=", ("equals", "style", "")),
            (("equals", "-", ""), "'", ("single", "-", "")), (("equals", "-", ""), "&", ("bare", "-", "&")),
            (("bare", "-", "&"), ">", START), (("double", "-", ""), "\"", ("gap", "-", "")), (("single", "-", "&#3"), "9", ("single", "-", "&#39")),
            (("gap", "script", ""), ">", ("raw", "script", "")), (("raw", "script", "</script"), " ", ("gap", "-", "")),
        ]:
            self.check([("text", char)], (0, (), state), (1, (), after))

    def test_the_state_behind_a_mark(self):
        hole = [("hole", ("", "t"), 3)]
        for state, after in [
            (text("</"), text()), (text("&am"), text()), (("tag", "s", ""), ("tag", "-", "")), (("tag", "script", ""), ("tag", "-", "")),
            (("gap", "script", ""), ("name", "script", "")), (("name", "-", ""), ("name", "-", "")), (("equals", "style", ""), ("bare", "style", "")),
            (("bare", "-", "&"), ("bare", "-", "")), (("double", "-", "&l"), ("double", "-", "")), (("single", "-", ""), ("single", "-", "")),
            (("comment", "", "--"), ("comment", "", "")), (("raw", "style", "</st"), ("raw", "style", "")),
        ]:
            self.check(hole, (0, (), state), (1, (), after))
            self.check([("data", ("", "d"), 3)], (0, (), state), (1, (), after))
            self.check([("text", "x")] + hole, (1, (), state), (2, (), after))

    def test_answers_stay_at_characters_and_holes(self):
        nodes = [("text", "a"), ("hole", ("", "t"), 1), condition([], [])]
        self.check(nodes, (0, ((P, True),), START), (1, ((P, True),), START))
        self.check(nodes, (1, ((P, False),), text("<")), (2, ((P, False),), START))

    def test_conditions(self):
        nodes = [condition([("text", "ab")], [("text", "c")])]
        self.check(nodes, (0, ((P, True),), text("<")), (1, ((P, True),), text("<")))
        self.check(nodes, (0, ((P, False),), text("<")), (4, ((P, False),), text("<")))
        self.check(nodes, (3, ((P, True),), text("&")), (5, ((P, True),), text("&")))

    def test_conditions_with_other_answers_beside(self):
        nodes = [condition([("text", "a")], []), condition([("text", "b")], [], Q)]
        for first, second in itertools.product([False, True], repeat=2):
            fixed = answers([P, Q], first, second)
            self.check(nodes, (0, fixed, START), (1 if first else 3, fixed, START))
            self.check(nodes, (3, fixed, START), (4 if second else 6, fixed, START))

    def test_the_same_path_twice(self):
        nodes = [condition([("text", "a")], []), condition([("text", "b")], [])]
        for truth in (False, True):
            self.check(nodes, (3, ((P, truth),), START), (4 if truth else 6, ((P, truth),), START))

    def test_loops_without_questions(self):
        nodes = [("text", "x"), loop([("text", "a")]), ("text", "y")]
        self.check(nodes, (1, (), text("<")), (4, (), text("<")), (2, (), text("<")))
        self.check(nodes, (3, (), text("<")), (1, (), text("<")))

    def test_an_empty_loop(self):
        nodes = [loop([])]
        self.check(nodes, (0, (), START), (2, (), START), (1, (), START))
        self.check(nodes, (1, (), START), (0, (), START))

    def test_loops_with_questions(self):
        nodes = [loop([condition([], [], RQ), condition([], [], RP), condition([], [])])]
        for truth in (False, True):
            fixed = ((P, truth),)
            turns = [(1, fixed + row, START) for row in all_answers(RP, RQ)]
            self.check(nodes, (0, fixed, START), (8, fixed, START), *turns)
            for row in all_answers(RP, RQ):
                self.check(nodes, (7, fixed + row, text("&")), (0, fixed, text("&")))

    def test_conditions_in_loops(self):
        nodes = [loop([condition([("text", "a")], [], RP), condition([("text", "b")], [])])]
        for outer, inner in itertools.product([False, True], repeat=2):
            fixed = ((P, outer), (RP, inner))
            self.check(nodes, (1, fixed, START), (2 if inner else 4, fixed, START))
            self.check(nodes, (4, fixed, START), (5 if outer else 7, fixed, START))

    def test_conditions_around_loops(self):
        nodes = [condition([loop([condition([], [], RP)])], [loop([], "r", ("", "lines"))])]
        for row in [((P, True),)]:
            self.check(nodes, (0, row, START), (1, row, START))
            self.check(nodes, (1, row, START), (5, row, START), (2, row + ((RP, False),), START), (2, row + ((RP, True),), START))
            self.check(nodes, (4, row + ((RP, True),), START), (1, row, START))
            self.check(nodes, (5, row, START), (8, row, START))
        self.check(nodes, (0, ((P, False),), START), (6, ((P, False),), START))
        self.check(nodes, (6, ((P, False),), START), (8, ((P, False),), START), (7, ((P, False),), START))

    def test_a_loop_in_a_loop(self):
        inner = loop([condition([], [], SP), condition([], [], RP), condition([], [])], "s", INNER)
        nodes = [loop([condition([], [], RQ), inner])]
        self.assertEqual(program(nodes)[3][0], "for")
        for row in all_answers(P, RP, RQ):
            turns = [(4, row + ((SP, truth),), START) for truth in (False, True)]
            self.check(nodes, (3, row, START), (11, row, START), *turns)
            for truth in (False, True):
                self.check(nodes, (10, row + ((SP, truth),), START), (3, row, START))
                self.check(nodes, (4, row + ((SP, truth),), START), (5 if truth else 6, row + ((SP, truth),), START))
            self.check(nodes, (11, row, START), (0, row[:1], START))
        for fixed in all_answers(P):
            self.check(nodes, (0, fixed, START), (12, fixed, START), *[(1, fixed + more, START) for more in all_answers(RP, RQ)])

    def test_a_variable_that_is_asked_in_a_loop_within_its_loop_only(self):
        nodes = [loop([loop([condition([], [], RP)], "s", INNER)])]
        self.check(nodes, (0, (), START), (6, (), START), (1, ((RP, False),), START), (1, ((RP, True),), START))
        for row in all_answers(RP):
            self.check(nodes, (1, row, START), (5, row, START), (2, row, START))
            self.check(nodes, (4, row, START), (1, row, START))
            self.check(nodes, (5, row, START), (0, (), START))

    def test_two_loops_with_the_same_variable(self):
        nodes = [loop([condition([], [], RP)]), loop([condition([], [], RQ)], "r", ("", "lines"))]
        self.check(nodes, (0, (), START), (4, (), START), (1, ((RP, False),), START), (1, ((RP, True),), START))
        self.check(nodes, (4, (), START), (8, (), START), (5, ((RQ, False),), START), (5, ((RQ, True),), START))

    def test_the_order_of_the_answers_in_a_loop(self):
        """They stand behind those of the record itself, though their variable may come first in the order of strings."""
        nodes = [loop([condition([], [], ("a", "z")), condition([], [], ("a", "b")), condition([], [], ("", "c"))], "a")]
        fixed = ((("", "c"), True),)
        turns = [(1, fixed + row, START) for row in all_answers(("a", "b"), ("a", "z"))]
        self.check(nodes, (0, fixed, START), (8, fixed, START), *turns)

    def test_random_templates(self):
        rng = random.Random(5)
        for nodes, instructions in small_programs(21, 150, 1500):
            fixed = questions_at(nodes)
            self.assertEqual(first_situations(instructions), model_first(fixed))
            found = reachable(instructions)
            for situation in rng.sample(found, min(len(found), 40)):
                self.assertEqual(following(instructions, situation), model_following(instructions, fixed, situation), (nodes, situation))


class ReachableTest(unittest.TestCase):
    def check(self, nodes, *wanted):
        self.assertEqual(reachable(program(nodes)), list(wanted))

    def test_nothing(self):
        self.check([], (0, (), START))

    def test_texts_and_holes(self):
        self.check([("text", "<"), ("hole", ("", "t"), 1), ("text", "<b")],
                   (0, (), START), (1, (), text("<")), (2, (), START), (3, (), text("<")), (4, (), ("tag", "-", "")))

    def test_a_condition(self):
        no, yes = ((P, False),), ((P, True),)
        self.check([condition([("text", "ab")], [("text", "<")])],
                   (0, no, START), (0, yes, START), (4, no, START), (1, yes, START), (5, no, text("<")), (2, yes, START),
                   (3, yes, START), (5, yes, START))

    def test_a_loop_that_ends_where_it_began(self):
        self.check([loop([("text", "a")])], (0, (), START), (3, (), START), (1, (), START), (2, (), START))

    def test_a_loop_whose_turns_end_in_another_state(self):
        self.check([loop([("text", "<")])],
                   (0, (), START), (3, (), START), (1, (), START), (2, (), text("<")), (0, (), text("<")), (3, (), text("<")),
                   (1, (), text("<")))

    def test_a_state_that_needs_several_turns(self):
        found = reachable(program(laid("&{for r in lines}{if r.q}#{else}6{end}{end}")))
        pendings = sorted({pending for number, _, (_, _, pending) in found if number == 1})
        self.assertEqual(pendings, ["", "&", "&#", "&#6", "&#66"])
        found = reachable(program(laid("<{for r in rows}{if r.p}s{else}c{end}{end}")))
        self.assertEqual(
            sorted({state for number, _, state in found if number == 1}),
            [("tag", "-", ""), ("tag", "s", ""), ("tag", "sc", ""), text("<")])

    def test_answers_at_once(self):
        no, yes = ((RP, False),), ((RP, True),)
        self.check([loop([condition([("text", "<")], [], RP)])],
                   (0, (), START), (5, (), START), (1, no, START), (1, yes, START), (4, no, START), (2, yes, START), (3, yes, text("<")),
                   (4, yes, text("<")), (0, (), text("<")), (5, (), text("<")), (1, no, text("<")), (1, yes, text("<")), (4, no, text("<")),
                   (2, yes, text("<")))

    def test_random_templates_against_a_slow_search(self):
        for nodes, instructions in small_programs(22, 120, 1000):
            found, _ = model_reachable(nodes, instructions)
            self.assertEqual(reachable(instructions), found, nodes)
            self.assertEqual(len(set(found)), len(found))

    def test_what_records_lead_to_is_reachable(self):
        rng = random.Random(6)
        for nodes, instructions in small_programs(23, 200, 3000):
            found = set(reachable(instructions))
            for _ in range(3):
                self.assertLessEqual(set(situations_of(nodes, random_record(rng))), found, nodes)

    def test_six_truths(self):
        asked = "".join("{if " + name + "}{end}" for name in "abcdeg")
        source = "{shape " + ", ".join(name + " truth" for name in "abcdeg") + "}" + asked + "<b>x"
        found = reachable(program(lay_out(parse_template(source))))
        # Of each condition, the first branch leads to the `jump`.
        self.assertEqual(len(found), 64 * (6 + 4 + 1) + 6 * 32)

    def test_many_instructions(self):
        source = "{shape p truth}{part a}" + "<b c=\"x\">" * 40 + "{end}{if p}{end}" + "{use a}{end}" * 40
        found = reachable(program(lay_out(parse_template(source))))
        self.assertEqual(len(found), 2 * (40 * 40 * 9 + 2) + 1)


class WayTest(unittest.TestCase):
    def check(self, nodes, *way):
        self.assertEqual(way_to(program(nodes), way[-1]), list(way))

    def test_first_situations(self):
        self.check([], (0, (), START))
        self.check([condition([], [])], (0, ((P, True),), START))
        self.check([condition([], [])], (0, ((P, False),), START))

    def test_a_first_situation_that_follows_others(self):
        self.check([loop([("text", "a")])], (0, (), START))
        self.check([loop([("text", "a")])], (0, (), START), (1, (), START))

    def test_texts_and_holes(self):
        self.check([("text", "<"), ("hole", ("", "t"), 1), ("text", "<b")],
                   (0, (), START), (1, (), text("<")), (2, (), START), (3, (), text("<")), (4, (), ("tag", "-", "")))

    def test_the_turns_of_a_loop(self):
        nodes = [loop([("text", "<")])]
        begun = [(0, (), START), (1, (), START), (2, (), text("<")), (0, (), text("<"))]
        self.check(nodes, *begun)
        self.check(nodes, *begun, (1, (), text("<")))
        self.check(nodes, *begun, (3, (), text("<")))
        self.check(nodes, (0, (), START), (3, (), START))

    def test_two_situations_that_lead_to_one(self):
        """Both branches end in the same state in each turn, and the first situation in the list is taken."""
        nodes = [loop([condition([("text", "<")], [("text", "<")], RP), ("text", "b")])]
        no = ((RP, False),)
        self.check(nodes, (0, (), START), (1, no, START), (4, no, START), (5, no, text("<")), (6, no, ("tag", "-", "")), (0, (), ("tag", "-", "")))

    def test_the_shorter_way_is_taken(self):
        nodes = [loop([condition([("text", "xyz<")], [("text", "b<")], RP)])]
        no = ((RP, False),)
        self.check(nodes, (0, (), START), (1, no, START), (7, no, START), (8, no, START), (9, no, text("<")), (0, (), text("<")))

    def test_random_templates(self):
        rng = random.Random(7)
        for nodes, instructions in small_programs(24, 60, 300):
            found, behind = model_reachable(nodes, instructions)
            firsts = first_situations(instructions)
            for situation in rng.sample(found, min(len(found), 12)):
                self.assertEqual(way_to(instructions, situation), model_way(found, behind, firsts, situation), nodes)


class NotReachedTest(unittest.TestCase):
    def fails(self, nodes, situation):
        instructions = program(nodes)
        with self.assertRaises(SamepageError) as caught:
            way_to(instructions, situation)
        self.assertEqual((type(caught.exception), caught.exception.at), (NotReached, 0))

    def test_another_state(self):
        self.fails([], (0, (), text("<")))
        self.fails([("text", "a")], (1, (), text("&")))
        self.fails([("text", "a")], (1, (), ("comment", "", "")))
        self.fails([loop([("text", "<")])], (2, (), START))

    def test_other_answers(self):
        self.fails([], (0, ((P, True),), START))
        self.fails([condition([], [])], (0, (), START))
        self.fails([condition([], [])], (1, ((P, False),), START))
        self.fails([condition([], [])], (0, ((Q, True),), START))
        self.fails([condition([], []), condition([], [], Q)], (0, ((Q, True), (P, True)), START))
        self.fails([loop([condition([], [], RP)])], (0, ((RP, True),), START))
        self.fails([loop([condition([], [], RP)])], (1, (), START))

    def test_another_number(self):
        self.fails([], (1, (), START))
        self.fails([], (-1, (), START))
        self.fails([("text", "a")], (2, (), START))
        self.fails([condition([("text", "a")], [])], (100, ((P, True),), START))

    def test_each_situation_that_is_not_in_the_list(self):
        nodes = [condition([("text", "<")], []), loop([condition([("text", "b")], [], RP)])]
        instructions = program(nodes)
        found = reachable(instructions)
        rows = [(), *all_answers(P), *all_answers(RP), *all_answers(P, RP)]
        states = [START, text("<"), ("tag", "-", "")]
        missing = [one for one in itertools.product(range(-1, len(instructions) + 1), rows, states) if one not in found]
        self.assertGreater(len(missing), 100)
        for situation in missing:
            self.fails(nodes, situation)
        for situation in found:
            self.assertEqual(way_to(instructions, situation)[-1], situation)


class AnswersTest(unittest.TestCase):
    def test_arguments_and_later_answers_stay(self):
        instructions = program([condition([("text", "ab")], []), loop([condition([], [], RP)])])
        kept = copy.deepcopy(instructions)
        situation = (4, ((P, True),), START)
        self.assertEqual(instructions[4][0], "for")
        for call in (
            lambda: first_situations(instructions), lambda: following(instructions, situation), lambda: reachable(instructions),
            lambda: way_to(instructions, situation),
        ):
            found = call()
            self.assertIs(type(found), list)
            self.assertTrue(all(type(one) is tuple for one in found))
            again = list(found)
            found.clear()
            self.assertEqual(call(), again)
            self.assertEqual(instructions, kept)


if __name__ == "__main__":
    unittest.main()
