"""Situations: which ones are first, which ones follow, and the search for all that are reachable."""

from samepage.errors import NotReached
from samepage.marks.marked import mark_step
from samepage.pages.machine import START, step
from samepage.ways.program import questions


class Steps:
    """The steps of a program from situation to situation. The questions of each loop are looked up only once."""

    def __init__(self, instructions):
        self.instructions = instructions
        self.asked = {}

    def questions_of(self, number):
        """Return the questions of the loop whose `for` has the number, or of the record itself for -1."""
        if number not in self.asked:
            self.asked[number] = questions(self.instructions, number)
        return self.asked[number]

    def first(self):
        """Return the list of the first situations."""
        return [(0, answers, START) for answers in combinations_of(self.questions_of(-1))]

    def behind(self, situation):
        """Return the list of the situations that follow a situation."""
        number, answers, state = situation
        instruction = self.instructions[number]
        kind = instruction[0]
        if kind == "char":
            after, _ = step(state, instruction[1])
            return [(number + 1, answers, after)]
        if kind == "hole":
            after, _ = mark_step(state, instruction[1])
            return [(number + 1, answers, after)]
        if kind == "if":
            return [(number + 1 if dict(answers)[instruction[1]] else instruction[2], answers, state)]
        if kind == "jump":
            return [(instruction[1], answers, state)]
        if kind == "for":
            turns = combinations_of(self.questions_of(number))
            return [(instruction[3], answers, state)] + [(number + 1, answers + turn, state) for turn in turns]
        if kind == "next":
            # The loop of this turn is the innermost one, so its answers are the last ones.
            fixed = len(answers) - len(self.questions_of(instruction[1]))
            return [(instruction[1], answers[:fixed], state)]
        return []


def combinations_of(paths):
    """Return each combination of answers to the questions, in ascending order."""
    found = [()]
    for path in paths:
        found = [answers + ((path, truth),) for answers in found for truth in (False, True)]
    return found


def first_situations(instructions):
    """Return the list of the first situations of a program."""
    return Steps(instructions).first()


def following(instructions, situation):
    """Return the list of the situations that follow a situation."""
    return Steps(instructions).behind(situation)


def searched(instructions):
    """Return a dict from each reachable situation to the one before it on the search's way, None for a first one.

    Its keys stand in the order in which a breadth-first search finds them.
    """
    steps = Steps(instructions)
    came = {situation: None for situation in steps.first()}
    layer = list(came)
    while layer:
        found = []
        for situation in layer:
            for after in steps.behind(situation):
                if after not in came:
                    came[after] = situation
                    found.append(after)
        layer = found
    return came


def reachable(instructions):
    """Return the list of the reachable situations, in the order of a breadth-first search."""
    return list(searched(instructions))


def way_to(instructions, situation):
    """Return the search's way to a reachable situation."""
    came = searched(instructions)
    if situation not in came:
        raise NotReached(0)
    return way_back(came, situation)


def way_back(came, situation):
    """Return the way to a situation, from the dict of the situations before each one."""
    way = [situation]
    while came[way[-1]] is not None:
        way.append(came[way[-1]])
    return way[::-1]
