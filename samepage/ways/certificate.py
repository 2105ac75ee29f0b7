"""Certificates: whether a list of situations is closed, and the states in it at a hole."""

from samepage.ways.reach import Steps


def is_closed(instructions, situations):
    """Return True if the list contains all first situations and, with each one in it, all that follow."""
    steps = Steps(instructions)
    known = {situation: True for situation in situations}
    if not all([first in known for first in steps.first()]):
        return False
    for situation in known:
        if not all([after in known for after in steps.behind(situation)]):
            return False
    return True


def states_at(instructions, situations, hole):
    """Return the list of the states at the hole with this number, in ascending order without duplicates."""
    return sorted({state for number, _, state in situations if instructions[number] == ("hole", hole)})
