"""Points 502 to 504: programs and their questions."""

import copy
import unittest

from samepage.errors import SamepageError
from samepage.templates.laying import lay_out
from samepage.templates.source import parse_template
from samepage.ways.program import program, questions
from tests.templates import sources

P, Q = ("", "p"), ("", "q")
ROWS = ("", "rows")


def hole(name):
    return ("hole", ("", name), 5)


def condition(first, second, path=P):
    return ("if", path, first, second, 5)


def loop(nodes, name="r", path=ROWS):
    return ("for", name, path, nodes, 5)


def chars(text):
    return [("char", char) for char in text]


def model_program(nodes):
    """A program whose targets are labels first, and then numbers."""
    rows = []
    holes = []
    labels = {}
    write_model(nodes, rows, holes, labels)
    rows.append(("stop",))
    return [tuple(labels[part[1]] if isinstance(part, tuple) and part[0] == "label" else part for part in row) for row in rows]


def write_model(nodes, rows, holes, labels):
    for node in nodes:
        one, two = [("label", (len(labels), number)) for number in range(2)]
        labels[one[1]] = labels[two[1]] = None
        if node[0] == "text":
            rows.extend(chars(node[1]))
        elif node[0] == "if":
            rows.append(("if", node[1], one))
            write_model(node[2], rows, holes, labels)
            rows.append(("jump", two))
            labels[one[1]] = len(rows)
            write_model(node[3], rows, holes, labels)
            labels[two[1]] = len(rows)
        elif node[0] == "for":
            labels[one[1]] = len(rows)
            rows.append(("for", node[1], node[2], two))
            write_model(node[3], rows, holes, labels)
            rows.append(("next", one))
            labels[two[1]] = len(rows)
        else:
            rows.append(("hole", len(holes)))
            holes.append(node)


class ProgramTest(unittest.TestCase):
    def check(self, nodes, *instructions):
        self.assertEqual(program(nodes), list(instructions))

    def test_the_empty_list(self):
        self.check([], ("stop",))

    def test_texts(self):
        self.check([("text", "a")], ("char", "a"), ("stop",))
        self.check([("text", "<b>\n")], ("char", "<"), ("char", "b"), ("char", ">"), ("char", "\n"), ("stop",))

    def test_holes(self):
        self.check([hole("a")], ("hole", 0), ("stop",))
        self.check([("data", ("", "d"), 3)], ("hole", 0), ("stop",))
        self.check([hole("a"), ("text", "x"), hole("a"), ("data", P, 0)],
                   ("hole", 0), ("char", "x"), ("hole", 1), ("hole", 2), ("stop",))

    def test_conditions(self):
        self.check([condition([("text", "ab")], [("text", "c")])],
                   ("if", P, 4), ("char", "a"), ("char", "b"), ("jump", 5), ("char", "c"), ("stop",))
        self.check([condition([hole("a")], [hole("b"), hole("c")]), hole("d")],
                   ("if", P, 3), ("hole", 0), ("jump", 5), ("hole", 1), ("hole", 2), ("hole", 3), ("stop",))

    def test_branches_that_are_empty(self):
        self.check([condition([], [])], ("if", P, 2), ("jump", 2), ("stop",))
        self.check([condition([("text", "a")], [])], ("if", P, 3), ("char", "a"), ("jump", 3), ("stop",))
        self.check([condition([], [("text", "a")])], ("if", P, 2), ("jump", 3), ("char", "a"), ("stop",))

    def test_loops(self):
        self.check([loop([])], ("for", "r", ROWS, 2), ("next", 0), ("stop",))
        self.check([("text", "x"), loop([("text", "a"), hole("b")]), ("text", "y")],
                   ("char", "x"), ("for", "r", ROWS, 5), ("char", "a"), ("hole", 0), ("next", 1), ("char", "y"), ("stop",))
        self.check([loop([loop([], "s", ("r", "inner"))])],
                   ("for", "r", ROWS, 4), ("for", "s", ("r", "inner"), 3), ("next", 1), ("next", 0), ("stop",))

    def test_loops_in_conditions(self):
        self.check([condition([loop([hole("a")])], [hole("b"), loop([], "s", ("", "lines"))])],
                   ("if", P, 5), ("for", "r", ROWS, 4), ("hole", 0), ("next", 1), ("jump", 8),
                   ("hole", 1), ("for", "s", ("", "lines"), 8), ("next", 6), ("stop",))

    def test_conditions_in_loops(self):
        self.check([loop([condition([("text", "a")], [], ("r", "p")), condition([], [hole("b")], Q)]), ("text", "z")],
                   ("for", "r", ROWS, 8), ("if", ("r", "p"), 4), ("char", "a"), ("jump", 4), ("if", Q, 6), ("jump", 7), ("hole", 0),
                   ("next", 0), ("char", "z"), ("stop",))

    def test_conditions_in_conditions(self):
        self.check([condition([condition([], [], Q)], [condition([hole("a")], [], Q)])],
                   ("if", P, 4), ("if", Q, 3), ("jump", 3), ("jump", 7), ("if", Q, 7), ("hole", 0), ("jump", 7), ("stop",))

    def test_deep_nodes(self):
        nodes = [hole("a")]
        for number in range(40):
            nodes = [condition(nodes, []) if number % 2 else condition([], nodes), ("text", "x")]
        self.assertEqual(program(nodes), model_program(nodes))

    def test_random_templates(self):
        count = 0
        for source in sources(10, 2500):
            try:
                nodes = lay_out(parse_template(source))
            except SamepageError:
                continue
            count += 1
            self.assertEqual(program(nodes), model_program(nodes), source)
        self.assertGreater(count, 300)


class QuestionsTest(unittest.TestCase):
    def check(self, nodes, number, *paths):
        self.assertEqual(questions(program(nodes), number), list(paths))

    def test_none(self):
        self.check([], -1)
        self.check([("text", "x"), hole("a")], -1)
        self.check([loop([("text", "x")])], -1)
        self.check([loop([])], 0)
        self.check([condition([], []), loop([hole("a"), condition([], [])])], 2)

    def test_the_record_itself(self):
        self.check([condition([], [])], -1, P)
        self.check([condition([], [], Q), condition([], [], P)], -1, P, Q)
        self.check([condition([condition([], [], ("", "a"))], [condition([], [], ("", "b"))])], -1, ("", "a"), ("", "b"), P)

    def test_the_same_path_twice(self):
        self.check([condition([condition([], [])], []), condition([], [])], -1, P)
        self.check([loop([condition([], [], ("r", "p")), condition([], [], ("r", "p"))])], 0, ("r", "p"))

    def test_within_loops(self):
        nodes = [loop([condition([], [], ("r", "p")), condition([], [], Q), loop([
            condition([], [condition([], [], ("r", "q"))], ("s", "a")), condition([], [], ("", "z")), condition([], [], ("r", "p")),
        ], "s", ("r", "inner"))]), condition([], [], P)]
        self.check(nodes, -1, P, Q, ("", "z"))
        self.check(nodes, 0, ("r", "p"), ("r", "q"))
        self.assertEqual(program(nodes)[5], ("for", "s", ("r", "inner"), 15))
        self.check(nodes, 5, ("s", "a"))

    def test_in_both_branches(self):
        nodes = [loop([condition(
            [condition([], [], ("r", "c"))], [condition([], [], ("r", "b")), condition([], [], ("r", "a"))], ("r", "d"))])]
        self.check(nodes, 0, ("r", "a"), ("r", "b"), ("r", "c"), ("r", "d"))
        self.check(nodes, -1)

    def test_two_loops_with_the_same_variable(self):
        nodes = [loop([condition([], [], ("r", "p"))]), loop([condition([], [], ("r", "q"))], "r", ("", "lines")), loop([], "r", P)]
        starts = [at for at, step in enumerate(program(nodes)) if step[0] == "for"]
        for start, paths in zip(starts, ([("r", "p")], [("r", "q")], [])):
            self.check(nodes, start, *paths)

    def test_the_last_instruction_of_a_loop(self):
        nodes = [loop([("text", "x"), condition([], [], ("r", "p"))]), condition([], [], ("r", "q"))]
        self.check(nodes, 0, ("r", "p"))

    def test_the_order_of_strings(self):
        names = ["b", "ab", "a", "c", "ba"]
        self.check([condition([], [], ("", name)) for name in names], -1, *[("", name) for name in sorted(names)])

    def test_random_templates(self):
        for source in sources(11, 1500):
            try:
                nodes = lay_out(parse_template(source))
            except SamepageError:
                continue
            instructions = program(nodes)
            for number, variable, inside in [(-1, "", nodes)] + list(loops_of(nodes, instructions)):
                wanted = sorted({path for path in truths_of(inside) if path[0] == variable})
                self.assertEqual(questions(instructions, number), wanted, source)


def loops_of(nodes, instructions):
    """The number, the variable and the nodes of each loop."""
    starts = iter([at for at, step in enumerate(instructions) if step[0] == "for"])
    for node in walked(nodes):
        if node[0] == "for":
            yield next(starts), node[1], node[3]


def truths_of(nodes):
    return [node[1] for node in walked(nodes) if node[0] == "if"]


def walked(nodes):
    for node in nodes:
        yield node
        for part in node:
            if isinstance(part, list):
                yield from walked(part)


class AnswersTest(unittest.TestCase):
    def test_arguments_and_later_answers_stay(self):
        nodes = [loop([condition([hole("a")], [], ("r", "p"))]), condition([], [])]
        kept = copy.deepcopy(nodes)
        instructions = program(nodes)
        again = list(instructions)
        self.assertEqual(nodes, kept)
        asked = questions(instructions, -1)
        asked.append("changed")
        questions(instructions, 0).clear()
        self.assertEqual(instructions, again)
        self.assertEqual(questions(instructions, -1), [P])
        self.assertEqual(questions(instructions, 0), [("r", "p")])
        instructions.clear()
        self.assertEqual(program(nodes), again)

    def test_kinds_of_answers(self):
        instructions = program([condition([], []), loop([])])
        self.assertIs(type(instructions), list)
        self.assertTrue(all(type(step) is tuple for step in instructions))
        self.assertTrue(all(type(path) is tuple for path in questions(instructions, -1)))


if __name__ == "__main__":
    unittest.main()
