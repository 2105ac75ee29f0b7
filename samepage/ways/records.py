"""Records and ways: the least record that takes a way, and whether a record takes one."""

from samepage.templates.shapes import field_kind
from samepage.ways.reach import Steps
from samepage.ways.walks import Walk


def record_of(shape, instructions, way):
    """Return the record of a way."""
    return present_records(shape, instructions, way)[""]


def present_records(shape, instructions, way):
    """Return the record of a way and, by their variables, the elements of the turns that were begun last.

    The elements are those that stand in the record, not copies.
    """
    shapes = {"": shape}
    records = {"": blank_record(shape)}
    answer(records, "", way[0])
    for situation, after in zip(way, way[1:]):
        instruction = instructions[situation[0]]
        if instruction[0] == "for" and after[0] != instruction[3]:
            _, variable, (outer, name), _ = instruction
            shapes[variable] = field_kind(shapes[outer], name)
            records[variable] = blank_record(shapes[variable])
            records[outer][name].append(records[variable])
            answer(records, variable, after)
    return records


def blank_record(shape):
    """Return the record of the shape in which nothing is fixed."""
    return {name: blank_field(kind) for name, kind in shape}


def blank_field(kind):
    """Return what a field of the kind has where nothing is fixed."""
    if isinstance(kind, list):
        return []
    if kind == "truth":
        return False
    return "" if kind == "text" else None


def answer(records, variable, situation):
    """Give the truths of the variable's record the answers of the situation."""
    for (owner, name), truth in situation[1]:
        if owner == variable:
            records[variable][name] = truth


def takes(instructions, record, way):
    """Return True if the situations that the record leads to begin with the way, otherwise False."""
    steps = Steps(instructions)
    walk = Walk(instructions, record)
    due = steps.first()
    for situation in way:
        if situation not in due or not is_met(walk, situation):
            return False
        due = steps.behind(situation)
        walk.go_on()
    return True


def is_met(walk, situation):
    """Return True if the walk is at the situation's instruction, and its answers are those of the present records."""
    return situation[0] == walk.number and all([walk.datum(path) == truth for path, truth in situation[1]])
