"""Points 302 to 311 a second time, slow and plain: the tests hold the program against it.

Errors are raised as `Fault`, with the name of the error class and its `at`.
"""

import functools
import re

WORDS = "data else end for if in part shape slot text truth use".split()
NAME = "(?!(?:" + "|".join(WORDS) + r")(?![a-z]))[a-z]{1,16}"
FIELD = NAME + r" (?:text|truth|data|\d)"
FLAT_SHAPE = re.compile(FIELD + "(?:, " + FIELD + r")*\Z|\Z")
PATH = "(?:(" + NAME + r")\.)?(" + NAME + ")"
DIRECTIVES = [
    ("alone", re.compile(r"(else|end|slot)\Z")),
    ("hole", re.compile(PATH + r"\Z")),
    ("data", re.compile("data " + PATH + r"\Z")),
    ("if", re.compile("if " + PATH + r"\Z")),
    ("for", re.compile("for (" + NAME + ") in " + PATH + r"\Z")),
    ("use", re.compile("use (" + NAME + r")\Z")),
    ("part", re.compile("part (" + NAME + r")\Z")),
]


class Fault(Exception):
    """The name of an error class, and its `at`."""


# Shapes

@functools.lru_cache(maxsize=None)
def is_written_shape(text):
    """Brackets are replaced, from the innermost ones, by a digit that says how deep the shape in them is."""
    if re.search(r"\d", text):
        return False
    while True:
        brackets = re.search(r"\[([^\[\]]*)\]", text)
        inside = text if brackets is None else brackets.group(1)
        if FLAT_SHAPE.match(inside) is None:
            return False
        depth = 1 + max([int(digit) for digit in re.findall(r"\d", inside)], default=0)
        if brackets is None:
            return depth <= 6
        if depth > 6:
            return False
        text = text[:brackets.start()] + str(depth) + text[brackets.end():]


# Whatever a shape is cut off in, one of these and closing brackets go on with it.
ENDINGS = sorted({
    text[at:] for text in ("a text", ", a text", "a truth", "a data") for at in range(len(text) + 1)
} | {"a text", "aa text", " a text"}, key=len)


@functools.lru_cache(maxsize=None)
def some_shape_begins(text):
    return any(is_written_shape(text + ending + "]" * many) for ending in ENDINGS for many in range(6))


def bad_shape(text):
    """Return None for a written shape, otherwise the length of the longest prefix that some shape has."""
    if is_written_shape(text):
        return None
    # If no shape has a prefix, none has a longer one.
    return next((size for size in range(len(text)) if not some_shape_begins(text[:size + 1])), len(text))


def shape_of(text):
    """The shape of a text that is written as one, without a look at names that are taken."""
    fields = []
    depth = 0
    parts = [""]
    for char in text.replace(", ", ","):
        depth += {"[": 1, "]": -1}.get(char, 0)
        if char == "," and depth == 0:
            parts.append("")
        else:
            parts[-1] += char
    for part in parts:
        if part != "":
            name, kind = part.split(" ", 1)
            fields.append((name, shape_of(kind[1:-1].replace(",", ", ")) if kind[0] == "[" else kind))
    return fields


def taken_twice(shape):
    names = [name for name, _ in shape]
    return len(set(names)) < len(names) or any(taken_twice(kind) for _, kind in shape if isinstance(kind, list))


# Source

def directive_of(inside):
    """The kind and the operands of a directive, or None."""
    if inside == "shape":
        return ("shape", "")
    if inside[:6] == "shape " and inside != "shape ":
        return ("shape", inside[6:]) if is_written_shape(inside[6:]) else None
    for kind, pattern in DIRECTIVES:
        found = pattern.match(inside)
        if found is not None:
            groups = list(found.groups())
            if kind == "alone":
                return (groups[0],)
            if kind in ("hole", "data", "if", "for"):
                groups[-2:] = [(groups[-2] or "", groups[-1])]
            return (kind,) + tuple(groups)
    return None


def signs_of(source):
    """The texts and directives of a source with their indexes, one after the other."""
    at = 0
    while at < len(source):
        found = re.compile(r"(?:[^{]|\{\{)+").match(source, at)
        if found is not None:
            yield "text", found.group().replace("{{", "{"), at
        else:
            found = re.compile(r"\{([^}]*)\}").match(source, at)
            head = None if found is None else directive_of(found.group(1))
            if head is None:
                raise Fault("BadDirective", at)
            yield head[0], head[1:], at
        at = found.end()


def model_parse(source):
    signs = signs_of(source)
    try:
        kind, operands, _ = next(signs, ("", "", 0))
    except Fault:
        kind = ""
    if kind != "shape":
        raise Fault("BadDirective", 0)
    shape = shape_of(operands[0])
    if taken_twice(shape):
        raise Fault("TakenName", 0)
    parts = []
    body = []
    # The rows of nodes that are open, each with the directives around it.
    rows = [body]
    around = []
    for kind, operands, at in signs:
        if kind == "text":
            rows[-1].append(("text", operands))
            continue
        check_place(kind, around, body, at)
        if kind == "part" and operands[0] in dict(parts):
            raise Fault("TakenName", at)
        if kind in ("part", "if", "for", "use"):
            if len(around) >= 12:
                raise Fault("TooDeep", at)
            around.append([kind, operands, at])
            rows.append([])
        elif kind == "else":
            around[-1].append(rows.pop())
            rows.append([])
        elif kind == "end":
            opened, operands, begun, *firsts = around.pop()
            second = rows.pop()
            if opened == "part":
                parts.append((operands[0], second))
            elif opened == "if":
                nodes = firsts + [second] if firsts else [second, []]
                rows[-1].append(("if", *operands, *nodes, begun))
            else:
                rows[-1].append((opened, *operands, second, begun))
        else:
            rows[-1].append((kind, *operands, at))
    if around:
        raise Fault("Unclosed", around[-1][2])
    return shape, parts, body


def check_place(kind, around, body, at):
    kinds = [opened[0] for opened in around]
    wrong = {
        "shape": True,
        "part": kinds != [] or body != [],
        "slot": "part" not in kinds,
        "end": kinds == [],
        "else": kinds[-1:] != ["if"] or len(around[-1]) > 3,
    }
    if wrong.get(kind, False):
        raise Fault("Misplaced", at)


def without_indexes(nodes):
    """The nodes with 0 in the place of each index."""
    return [
        node if node[0] == "text" else
        tuple(without_indexes(part) if isinstance(part, list) else part for part in node[:-1]) + (0,)
        for node in nodes
    ]


# Laying out

def walk(parts, nodes, limit, slots, chain):
    """Everything that is laid, in order: each node with the nodes around it, and the ends of branches and nodes.

    It is a generator, so that nothing behind a node is walked through before this node was checked.
    """
    for node in nodes:
        if node[0] == "text":
            yield "text", node, chain
            continue
        names = [name for name, _ in parts[:limit]]
        yield "node", node + (node[0] != "use" or node[1] in names,), chain
        inner = chain + [node]
        if node[0] == "if":
            yield from walk(parts, node[2], limit, slots, inner)
            yield "turn", node, chain
            yield from walk(parts, node[3], limit, slots, inner)
            yield "done", node, chain
        elif node[0] == "for":
            yield from walk(parts, node[3], limit, slots, inner)
            yield "done", node, chain
        elif node[0] == "use":
            number = names.index(node[1])
            yield from walk(parts, parts[number][1], number, [(node[2], limit)] + slots, inner)
        elif node[0] == "slot":
            (slotted, outer), *others = slots
            yield from walk(parts, slotted, outer, others, inner)


def model_lay(template):
    shape, parts, body = template
    many = 0
    truths = []
    # The lists that were run over: the numbers of the loops (0 for none) in whose scopes they are, and their names.
    runs = set()
    numbers = [0]
    rows = [[]]
    for sign, node, chain in walk(parts, body, len(parts), [], []):
        if sign == "text":
            add_text(rows[-1], node[1])
        elif sign == "turn":
            rows.append([])
        elif sign == "done":
            second = rows.pop()
            if node[0] == "if":
                first = rows.pop()
                rows[-1].append(("if", node[1], first, second, node[4]))
            else:
                rows[-1].append(("for", node[1], node[2], second, node[4]))
                numbers.pop()
        else:
            many += 1
            *_, at, is_known = node
            fault = first_fault(node, is_known, chain, shape, runs, numbers, truths)
            if fault is None and len(chain) >= 40:
                fault = "TooDeep"
            if fault is None and many > 2000:
                fault = "TooLarge"
            if fault is not None:
                raise Fault(fault, at)
            if node[0] == "for":
                runs.add((numbers[-1], node[2][1]))
                numbers.append(many)
            if node[0] in ("if", "for"):
                rows.append([])
            if node[0] in ("hole", "data"):
                rows[-1].append(node[:-1])
    return rows[0]


def first_fault(node, is_known, chain, shape, runs, numbers, truths):
    kind = node[0]
    if not is_known:
        return "UnknownPart"
    if kind in ("use", "slot"):
        return None
    path = node[2] if kind == "for" else node[1]
    found = model_kind(path, chain, shape)
    if found is None:
        return "UnknownName"
    if found != {"hole": "text", "data": "data", "if": "truth"}.get(kind) and not (kind == "for" and type(found) is list):
        return "WrongKind"
    loops = [around[1] for around in chain if around[0] == "for"]
    if kind == "for":
        if path[0] != ([""] + loops)[-1]:
            return "FarList"
        if (numbers[-1], path[1]) in runs:
            return "ListTwice"
        if node[1] in loops:
            return "TakenName"
    if kind == "if" and path not in truths:
        truths.append(path)
        if len(truths) == 7:
            return "TooManyTruths"
    return None


def model_kind(path, chain, shape):
    """The kind of a path inside of the nodes of the chain, or None."""
    scopes = {"": shape}
    for node in chain:
        if node[0] == "for":
            scopes[node[1]] = dict(scopes[node[2][0]])[node[2][1]]
    return dict(scopes.get(path[0], [])).get(path[1])


def add_text(row, text):
    if row and row[-1][0] == "text":
        row[-1] = ("text", row[-1][1] + text)
    else:
        row.append(("text", text))
