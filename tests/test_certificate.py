"""Points 510 and 511: lists of situations that are closed, and the states at a hole."""

import copy
import itertools
import random
import unittest

from samepage.templates.laying import holes_of
from samepage.ways.certificate import is_closed, states_at
from samepage.ways.program import program
from samepage.ways.reach import first_situations, following, reachable
from tests.common import START
from tests.markup import random_record
from tests.model_ways import situations_of
from tests.test_program import condition, loop
from tests.test_reach import RP, small_programs, text
from tests.test_ways_records import laid

P = ("", "p")


class ClosedTest(unittest.TestCase):
    def closed(self, instructions, situations):
        self.assertIs(is_closed(instructions, situations), True)

    def not_closed(self, instructions, situations):
        self.assertIs(is_closed(instructions, situations), False)

    def test_the_empty_template(self):
        self.closed(program([]), [(0, (), START)])
        self.not_closed(program([]), [])
        self.not_closed(program([]), [(0, (), text("<"))])
        self.closed(program([]), [(0, (), text("<")), (0, (), START)])

    def test_the_reachable_list_in_each_order(self):
        instructions = program([condition([("text", "a")], [])])
        found = reachable(instructions)
        self.assertEqual(len(found), 6)
        for order in itertools.permutations(found):
            self.closed(instructions, list(order))

    def test_duplicates(self):
        instructions = program([loop([condition([("text", "<")], [], RP)])])
        found = reachable(instructions)
        self.closed(instructions, found + found)
        self.closed(instructions, found[::-1] + found[:3] * 4)

    def test_one_situation_left_out(self):
        for nodes in [[], [("text", "a<")], [condition([("text", "a")], [])], [loop([condition([("text", "<")], [], RP)])],
                      [condition([], []), loop([("hole", ("", "t"), 1)])]]:
            instructions = program(nodes)
            found = reachable(instructions)
            for at in range(len(found)):
                self.not_closed(instructions, found[:at] + found[at + 1:])
                self.not_closed(instructions, (found[:at] + found[at + 1:]) * 2)

    def test_a_first_one_left_out_that_follows_none(self):
        instructions = program([condition([], [])])
        for missing in first_situations(instructions):
            rest = [one for one in reachable(instructions) if dict(one[1]) != dict(missing[1])]
            self.assertEqual(len(rest), len(reachable(instructions)) - (2 if missing[1][0][1] is False else 3))
            self.not_closed(instructions, rest)

    def test_more_of_the_situations_of_the_program(self):
        instructions = program([("text", "ab"), loop([condition([], [], RP)])])
        found = reachable(instructions)
        self.closed(instructions, found + [(6, (), text("<"))])
        self.closed(instructions, [(6, (), ("raw", "style", ""))] + found)
        self.not_closed(instructions, found + [(1, (), text("<"))])
        more = [(1, (), text("&"))]
        for one in more:
            for after in following(instructions, one):
                if after not in found and after not in more:
                    more.append(after)
        # The `b` settles the `&`, and what follows is reachable.
        self.assertEqual(len(more), 1)
        self.closed(instructions, more + found)

    def test_more_situations_and_all_that_follow_them(self):
        instructions = program([("text", "b"), loop([("text", "x")])])
        found = reachable(instructions)
        more = [(0, (), text("<"))]
        for one in more:
            more += [after for after in following(instructions, one) if after not in found + more]
        self.assertEqual(len(more), 5)
        for order in itertools.permutations(more):
            self.closed(instructions, list(order) + found)
        for at in range(1, len(more)):
            self.not_closed(instructions, found + more[:at] + more[at + 1:])
        self.closed(instructions, found + more[1:])

    def test_random_templates(self):
        rng = random.Random(11)
        for nodes, instructions in small_programs(28, 150, 1500):
            found = reachable(instructions)
            self.closed(instructions, found)
            self.closed(instructions, rng.sample(found, len(found)) + found[:2])
            for _ in range(5):
                at = rng.randrange(len(found))
                self.not_closed(instructions, found[:at] + found[at + 1:])


class StatesTest(unittest.TestCase):
    def check(self, source, *wanted):
        nodes = laid(source)
        instructions = program(nodes)
        found = reachable(instructions)
        self.assertEqual([states_at(instructions, found, hole) for hole in range(len(holes_of(nodes)))], list(wanted))

    def test_one_state(self):
        self.check("{t}", [START])
        self.check("<{t}", [text("<")])
        self.check("{data d}&l{t}", [START], [text("&l")])
        self.check("{t}{t}{data d}", [START], [START], [START])
        self.check("<a b='{t}'{t}", [("single", "-", "")], [("gap", "-", "")])

    def test_several_states_in_ascending_order(self):
        self.check("{if p}<{else}&{end}{if q}<!--{else}<a{end}{t}", [("comment", "", ""), ("tag", "-", "")])
        self.check("{if p}&l{else}<{end}{t}", [text("&l"), text("<")])
        self.check("{if p}{if q}x{else}<{end}{else}{if q}&{else}<!{end}{end}{t}", [text(), text("&"), text("<"), text("<!")])
        self.check("<{if p}script{else}style{end}>{data d}", [("raw", "script", ""), ("raw", "style", "")])
        self.check("<a b={if p}\"{end}{if q}&{end}{t}",
                   [("bare", "-", "&"), ("double", "-", ""), ("double", "-", "&"), ("equals", "-", "")])

    def test_each_state_once(self):
        self.check("{if p}<{end}{if q}x{end}b{t}", [("tag", "-", ""), START])
        self.check("{for r in rows}{r.t}x{end}{t}", [START], [START])

    def test_loops(self):
        self.check("{for r in rows}{r.t}<{end}{t}", [START, text("<")], [START, text("<")])
        self.check("{for r in rows}{if r.p}<{else}{data d}{end}{end}", [START, text("<")])

    def test_a_hole_that_is_not_reached(self):
        nodes = laid("{if p}x{else}{t}{end}")
        instructions = program(nodes)
        yes = [one for one in reachable(instructions) if dict(one[1])[P] is True]
        self.assertEqual(states_at(instructions, yes, 0), [])
        self.assertEqual(states_at(instructions, [], 0), [])

    def test_holes_that_are_not_in_the_list(self):
        instructions = program(laid("{t}<{t}"))
        found = reachable(instructions)
        for hole in (2, 3, 100, -1):
            self.assertEqual(states_at(instructions, found, hole), [])
        self.assertEqual(states_at(instructions, [found[0]], 0), [START])
        self.assertEqual(states_at(instructions, [found[0]], 1), [])

    def test_any_list_of_situations(self):
        instructions = program(laid("{t}<{t}"))
        rows = [(2, (), text("<")), (0, (), ("raw", "style", "<")), (0, (), START), (2, (), text("<")), (1, (), text("&")),
                (0, (), ("bare", "-", "")), (0, (), START), (3, (), text("<!"))]
        for order in (rows, rows[::-1]):
            self.assertEqual(states_at(instructions, order, 0), [("bare", "-", ""), ("raw", "style", "<"), START])
            self.assertEqual(states_at(instructions, order, 1), [text("<")])

    def test_random_templates(self):
        """The states are those of the situations; each one is met by a record, and no record meets another one."""
        rng = random.Random(12)
        for nodes, instructions in small_programs(29, 120, 1500):
            found = reachable(instructions)
            many = len(holes_of(nodes))
            states = {hole: {one[2] for one in found if instructions[one[0]] == ("hole", hole)} for hole in range(many)}
            for hole in range(many):
                self.assertEqual(states_at(instructions, rng.sample(found, len(found)), hole), sorted(states[hole]))
            for number, _, state in situations_of(nodes, random_record(rng)):
                if instructions[number][0] == "hole":
                    self.assertIn(state, states[instructions[number][1]])


class AnswersTest(unittest.TestCase):
    def test_arguments_and_later_answers_stay(self):
        instructions = program(laid("{for r in rows}{if r.p}<{end}{r.t}{end}"))
        situations = reachable(instructions)[::-1] * 2
        kept = copy.deepcopy((instructions, situations))
        self.assertIs(is_closed(instructions, situations), True)
        found = states_at(instructions, situations, 0)
        self.assertIs(type(found), list)
        found.clear()
        self.assertEqual(states_at(instructions, situations, 0), [START, text("<")])
        self.assertEqual((instructions, situations), kept)


if __name__ == "__main__":
    unittest.main()
