"""Verdicts: whether a template is accepted, what shows it, and the refusal if it is not."""

from samepage.codings.coding import is_admissible
from samepage.errors import Refused
from samepage.marks.filling import hopeless_text
from samepage.templates.laying import holes_of
from samepage.ways.certificate import is_closed
from samepage.ways.program import program
from samepage.ways.reach import reachable, searched, way_back
from samepage.ways.records import present_records


def hole_kinds(nodes):
    """Return the list of `"text"` or `"data"` for the holes of a laid-out template, in order."""
    return ["data" if hole[0] == "data" else "text" for hole in holes_of(nodes)]


def is_accepted(nodes):
    """Return True if each hole is admissible in every state in which it is reached, otherwise False."""
    instructions = program(nodes)
    return first_refused(nodes, instructions, reachable(instructions)) is None


def first_refused(nodes, instructions, situations):
    """Return the first situation at a hole that is not admissible in its state, or None if there is none."""
    kinds = hole_kinds(nodes)
    for situation in situations:
        instruction = instructions[situation[0]]
        if instruction[0] == "hole" and not is_admissible(kinds[instruction[1]], situation[2]):
            return situation
    return None


def certificate(nodes):
    """Return the certificate of an accepted template: the list of its reachable situations."""
    instructions = program(nodes)
    situations = reachable(instructions)
    refused = first_refused(nodes, instructions, situations)
    if refused is not None:
        raise Refused(instructions[refused[0]][1])
    return situations


def refusal(shape, nodes):
    """Return the tuple of the hole, the situation and the record of the refusal, or None if there is none."""
    instructions = program(nodes)
    came = searched(instructions)
    situation = first_refused(nodes, instructions, list(came))
    if situation is None:
        return None
    hole = instructions[situation[0]][1]
    records = present_records(shape, instructions, way_back(came, situation))
    variable, name = holes_of(nodes)[hole][1]
    records[variable][name] = hopeless_text(situation[2])
    return hole, situation, records[""]


def shows(nodes, situations):
    """Return True if the list of situations shows that the template is accepted, otherwise False."""
    instructions = program(nodes)
    return is_closed(instructions, situations) and first_refused(nodes, instructions, situations) is None
