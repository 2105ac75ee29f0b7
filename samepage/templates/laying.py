"""Laying out: uses and slots are replaced, and each node is checked at the place where it is laid."""

from samepage.errors import (
    FarList, ListTwice, TakenName, TooDeep, TooLarge, TooManyTruths, UnknownName, UnknownPart, WrongKind,
)
from samepage.templates.shapes import field_kind

MOST_TRUTHS = 6
MOST_OTHERS = 40
MOST_NODES = 2000

# The kind that the field of a node has; a loop's field is a list.
FIELD_KINDS = {"hole": "text", "data": "data", "if": "truth"}


class Scope:
    """The shape of the template, or of the list of one loop that is laid."""

    def __init__(self, shape):
        self.shape = shape
        # The names of the lists over which loops were laid in this scope.
        self.lists = []


class Place:
    """Where nodes are laid: the scopes by the variables of their loops, and how many others stand around."""

    def __init__(self, scopes, nearest, others):
        self.scopes = scopes
        self.nearest = nearest
        self.others = others

    def inside(self):
        """Return the place inside a condition, a use or a slot that is laid here."""
        return Place(self.scopes, self.nearest, self.others + 1)

    def inside_loop(self, name, shape):
        """Return the place inside a loop that is laid here."""
        return Place({**self.scopes, name: Scope(shape)}, name, self.others + 1)


class Origin:
    """The source from which nodes come: how many parts stand before it, and, in a part, what its slots are.

    These are the nodes of the use of the part, which have an origin of their own.
    """

    def __init__(self, before, slotted, outer):
        self.before = before
        self.slotted = slotted
        self.outer = outer


class Laying:
    """What was laid so far of a template."""

    def __init__(self, parts):
        self.parts = parts
        self.many = 0
        self.truths = []

    def lay(self, nodes, origin, place):
        """Return what is laid of the nodes; texts are not joined yet."""
        laid = []
        for node in nodes:
            if node[0] == "text":
                laid.append(node)
            else:
                self.check(node, origin, place)
                laid.extend(self.replaced(node, origin, place))
        return laid

    def replaced(self, node, origin, place):
        """Return the list of the nodes that are laid for a node."""
        kind = node[0]
        if kind == "use":
            number = self.part_number(node[1], origin)
            return self.lay(self.parts[number][1], Origin(number, node[2], origin), place.inside())
        if kind == "slot":
            return self.lay(origin.slotted, origin.outer, place.inside())
        if kind == "if":
            _, path, first, second, at = node
            first = self.lay(first, origin, place.inside())
            return [("if", path, joined(first), joined(self.lay(second, origin, place.inside())), at)]
        if kind == "for":
            _, name, path, nodes, at = node
            inside = place.inside_loop(name, kind_at(path, place))
            return [("for", name, path, joined(self.lay(nodes, origin, inside)), at)]
        return [node]

    def check(self, node, origin, place):
        """Raise the first error of a node that is laid at the place."""
        kind, at = node[0], node[-1]
        self.many += 1
        if kind == "use" and self.part_number(node[1], origin) is None:
            raise UnknownPart(at)
        if kind in FIELD_KINDS:
            self.check_field(kind, node[1], place, at)
        if kind == "for":
            self.check_loop(node, place)
        if place.others >= MOST_OTHERS:
            raise TooDeep(at)
        if self.many > MOST_NODES:
            raise TooLarge(at)

    def check_field(self, kind, path, place, at):
        """Raise the first error of the path of a hole or condition."""
        found = kind_at(path, place)
        if found is None:
            raise UnknownName(at)
        if found != FIELD_KINDS[kind]:
            raise WrongKind(at)
        if kind == "if" and path not in self.truths:
            if len(self.truths) == MOST_TRUTHS:
                raise TooManyTruths(at)
            self.truths.append(path)

    def check_loop(self, node, place):
        """Raise the first error of the path or the variable of a loop."""
        _, name, path, _, at = node
        found = kind_at(path, place)
        if found is None:
            raise UnknownName(at)
        if not isinstance(found, list):
            raise WrongKind(at)
        if path[0] != place.nearest:
            raise FarList(at)
        scope = place.scopes[path[0]]
        if path[1] in scope.lists:
            raise ListTwice(at)
        if name in place.scopes:
            raise TakenName(at)
        scope.lists.append(path[1])

    def part_number(self, name, origin):
        """Return the number of the part with this name that nodes of the origin may use, or None."""
        for number in range(origin.before):
            if self.parts[number][0] == name:
                return number
        return None


def lay_out(template):
    """Return the list of the nodes of a template without uses and slots."""
    shape, parts, body = template
    origin = Origin(len(parts), [], None)
    return joined(Laying(parts).lay(body, origin, Place({"": Scope(shape)}, "", 0)))


def kind_at(path, place):
    """Return the kind of the field to which a path leads at the place, or None if it leads to none."""
    variable, name = path
    if variable not in place.scopes:
        return None
    return field_kind(place.scopes[variable].shape, name)


def joined(nodes):
    """Return the nodes, where each row of texts is one text."""
    found = []
    texts = []
    for node in nodes:
        if node[0] == "text":
            texts.append(node[1])
        else:
            found.extend(text_node(texts))
            found.append(node)
            texts = []
    return found + text_node(texts)


def text_node(texts):
    """Return the list of the one node that texts form; the empty list if there are none."""
    return [("text", "".join(texts))] if texts else []


def holes_of(nodes):
    """Return the list of the hole and data nodes of a laid-out template, in order."""
    found = []
    for node in nodes:
        if node[0] == "hole" or node[0] == "data":
            found.append(node)
        elif node[0] == "if":
            found.extend(holes_of(node[2]) + holes_of(node[3]))
        elif node[0] == "for":
            found.extend(holes_of(node[3]))
    return found
