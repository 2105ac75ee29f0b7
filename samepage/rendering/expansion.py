"""Expansions: what a laid-out template becomes with a record, with marks in the place of its data."""

from samepage.data.notation import notation
from samepage.marks.filling import fill
from samepage.marks.marked import read_row
from samepage.templates.laying import holes_of
from samepage.ways.program import program
from samepage.ways.walks import Walk


def expand(nodes, record):
    """Return the row of a template with a record, the text of each of its marks, and the hole of each mark."""
    instructions = program(nodes)
    holes = holes_of(nodes)
    walk = Walk(instructions, record)
    row = []
    texts = []
    origins = []
    instruction = instructions[0]
    while instruction[0] != "stop":
        if instruction[0] == "char":
            row.append(instruction[1])
        elif instruction[0] == "hole":
            row.append(len(texts))
            texts.append(text_of_hole(holes[instruction[1]], walk))
            origins.append(instruction[1])
        walk.go_on()
        instruction = instructions[walk.number]
    return row, texts, origins


def text_of_hole(hole, walk):
    """Return the text that a hole shows with the present records."""
    kind, path, _ = hole
    datum = walk.datum(path)
    return notation(datum) if kind == "data" else datum


def own_tokens(nodes, record):
    """Return the list of the own tokens of a template with a record."""
    row, texts, _ = expand(nodes, record)
    return fill(read_row(row), texts)
