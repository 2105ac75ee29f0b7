"""Points 504 to 511 and 701 a second time: what a record leads to, by a walk over the nodes, and a slow search."""

import itertools

from samepage.marks.marked import mark_step
from samepage.pages.machine import START, step
from tests.model_data import model_notation


def asked(nodes, variable):
    """The paths of the conditions with this variable among the nodes, in ascending order."""
    found = set()
    for node in nodes:
        if node[0] == "if":
            found |= {node[1]} | set(asked(node[2] + node[3], variable))
        elif node[0] == "for":
            found |= set(asked(node[3], variable))
    return sorted(path for path in found if path[0] == variable)


def size_of(nodes):
    """The number of the instructions of the nodes."""
    sizes = {"text": lambda node: len(node[1]), "hole": lambda node: 1, "data": lambda node: 1}
    sizes["if"] = lambda node: 2 + size_of(node[2]) + size_of(node[3])
    sizes["for"] = lambda node: 2 + size_of(node[3])
    return sum(sizes[node[0]](node) for node in nodes)


def holes_in(nodes):
    return sum(
        1 if node[0] in ("hole", "data") else sum(holes_in(part) for part in node if isinstance(part, list)) for node in nodes)


class Run:
    """A record on its way: the situations that it leads to, and its expansion."""

    def __init__(self, nodes, record):
        self.state = START
        self.situations = []
        self.row = []
        self.texts = []
        self.origins = []
        answers = answers_of(nodes, "", record)
        self.walk(nodes, 0, 0, answers, {"": record})
        self.due(size_of(nodes), answers)

    def due(self, number, answers):
        self.situations.append((number, answers, self.state))

    def walk(self, nodes, number, hole, answers, records):
        for node in nodes:
            kind = node[0]
            if kind == "text":
                for at, char in enumerate(node[1]):
                    self.due(number + at, answers)
                    self.row.append(char)
                    self.state = step(self.state, char)[0]
            elif kind in ("hole", "data"):
                self.due(number, answers)
                datum = records[node[1][0]][node[1][1]]
                self.row.append(len(self.texts))
                self.texts.append(datum if kind == "hole" else model_notation(datum))
                self.origins.append(hole)
                self.state = mark_step(self.state, 0)[0]
            elif kind == "if":
                self.walk_condition(node, number, hole, answers, records)
            else:
                self.walk_loop(node, number, hole, answers, records)
            number += size_of([node])
            hole += holes_in([node])

    def walk_condition(self, node, number, hole, answers, records):
        _, (variable, name), first, second, _ = node
        self.due(number, answers)
        jump = number + 1 + size_of(first)
        if records[variable][name]:
            self.walk(first, number + 1, hole, answers, records)
            self.due(jump, answers)
        else:
            self.walk(second, jump + 1, hole + holes_in(first), answers, records)

    def walk_loop(self, node, number, hole, answers, records):
        _, new, (variable, name), inside, _ = node
        for record in records[variable][name]:
            self.due(number, answers)
            more = answers + answers_of(inside, new, record)
            self.walk(inside, number + 1, hole, more, {**records, new: record})
            self.due(number + 1 + size_of(inside), more)
        self.due(number, answers)


def answers_of(nodes, variable, record):
    return tuple((path, record[path[1]]) for path in asked(nodes, variable))


def situations_of(nodes, record):
    """All situations that a record leads to, in order."""
    return Run(nodes, record).situations


# The search

def questions_at(nodes):
    """For each instruction, the questions that are fixed there; those of a `for` and what is around it."""
    found = []
    add_questions(nodes, asked(nodes, ""), found)
    return found + [asked(nodes, "")]


def add_questions(nodes, paths, found):
    for node in nodes:
        if node[0] == "if":
            found.append(paths)
            add_questions(node[2], paths, found)
            found.append(paths)
            add_questions(node[3], paths, found)
        elif node[0] == "for":
            more = paths + asked(node[3], node[1])
            found.append(paths)
            add_questions(node[3], more, found)
            found.append(more)
        else:
            found += [paths] * size_of([node])


def model_following(instructions, fixed, situation):
    """What follows: the instructions that may be due next, with any answers to what was not asked before."""
    number, answers, state = situation
    instruction = instructions[number]
    kind = instruction[0]
    known = dict(answers)
    if kind == "stop":
        return []
    if kind == "char":
        state = step(state, instruction[1])[0]
    if kind == "hole":
        state = mark_step(state, 7)[0]
    numbers = [number + 1]
    if kind == "if" and known[instruction[1]] is False:
        numbers = [instruction[2]]
    elif kind in ("jump", "next"):
        numbers = [instruction[1]]
    elif kind == "for":
        numbers = [instruction[3], number + 1]
    return [(after, row, state) for after in numbers for row in rows_of_answers(fixed[after], known)]


def rows_of_answers(paths, known):
    choices = [[(path, known[path])] if path in known else [(path, False), (path, True)] for path in paths]
    return list(itertools.product(*choices))


def model_first(fixed):
    return [(0, answers, START) for answers in rows_of_answers(fixed[0] if fixed else [], {})]


def model_reachable(nodes, instructions):
    """The list of point 508, and what follows each situation in it."""
    fixed = questions_at(nodes)
    found = model_first(fixed)
    behind = {}
    for situation in found:
        behind[situation] = model_following(instructions, fixed, situation)
        found += [after for after in behind[situation] if after not in behind and after not in found]
    return found, behind


def model_way(found, behind, firsts, situation):
    """The way of point 508, word for word."""
    way = [situation]
    while way[0] not in firsts:
        way.insert(0, next(one for one in found if way[0] in behind[one]))
    return way
