"""The source of templates, read and written."""

from samepage.errors import BadDirective, Misplaced, TakenName, TooDeep, Unclosed
from samepage.templates.directives import directive
from samepage.templates.shapes import has_taken_name, write_shape

# The directives that have an `{end}`.
OPENING = ("part", "if", "for", "use")

MOST_OPENED = 12


class Opened:
    """A directive that has no `{end}` yet."""

    def __init__(self, head, at):
        self.head = head
        self.at = at
        # The nodes in front of an `{else}`, if there was one.
        self.first = None
        self.nodes = []

    def closed(self):
        """Return the node of the directive."""
        if self.head[0] != "if":
            return self.head + (self.nodes, self.at)
        if self.first is None:
            return self.head + (self.nodes, [], self.at)
        return self.head + (self.first, self.nodes, self.at)


class Reading:
    """What was read so far of a source, behind its shape."""

    def __init__(self):
        self.parts = []
        self.body = []
        self.opened = []

    def put(self, node):
        """Take a node that is whole."""
        if self.opened:
            self.opened[-1].nodes.append(node)
        else:
            self.body.append(node)

    def take(self, head, at):
        """Take the directive at the index."""
        kind = head[0]
        if self.is_misplaced(kind):
            raise Misplaced(at)
        if kind == "part" and head[1] in [name for name, _ in self.parts]:
            raise TakenName(at)
        if kind in OPENING:
            if len(self.opened) == MOST_OPENED:
                raise TooDeep(at)
            self.opened.append(Opened(head, at))
        elif kind == "else":
            self.turn()
        elif kind == "end":
            self.close()
        else:
            self.put(head + (at,))

    def is_misplaced(self, kind):
        """Return True if a directive of this kind may not stand here."""
        if kind == "shape":
            return True
        if kind == "part":
            return len(self.opened) > 0 or len(self.body) > 0
        if kind == "slot":
            return not self.opened or self.opened[0].head[0] != "part"
        if kind == "else":
            return not self.opened or self.opened[-1].head[0] != "if" or self.opened[-1].first is not None
        return kind == "end" and not self.opened

    def turn(self):
        """Go on with the second nodes of the innermost condition."""
        innermost = self.opened[-1]
        innermost.first = innermost.nodes
        innermost.nodes = []

    def close(self):
        """End the innermost directive."""
        innermost = self.opened.pop()
        if innermost.head[0] == "part":
            self.parts.append((innermost.head[1], innermost.nodes))
        else:
            self.put(innermost.closed())


def parse_template(source):
    """Return the tuple of the shape, the parts and the body of a source."""
    shape, at = read_head(source)
    reading = Reading()
    while at < len(source):
        text, at = read_text(source, at)
        if text != "":
            reading.put(("text", text))
        if at < len(source):
            head, end = read_directive(source, at)
            reading.take(head, at)
            at = end
    if reading.opened:
        raise Unclosed(reading.opened[-1].at)
    return shape, reading.parts, reading.body


def read_head(source):
    """Return the shape with which a source begins, and the index behind its directive."""
    if not source.startswith("{"):
        raise BadDirective(0)
    head, at = read_directive(source, 0)
    if head[0] != "shape":
        raise BadDirective(0)
    if has_taken_name(head[1]):
        raise TakenName(0)
    return head[1], at


def read_text(source, at):
    """Return the text, perhaps empty, from the index up to the next directive or the end, and the index there."""
    pieces = []
    brace = source.find("{", at)
    while brace != -1 and source[brace + 1:brace + 2] == "{":
        pieces.append(source[at:brace + 1])
        at = brace + 2
        brace = source.find("{", at)
    end = brace if brace != -1 else len(source)
    return "".join(pieces) + source[at:end], end


def read_directive(source, at):
    """Return the directive whose opening brace has the index, and the index behind its closing brace."""
    end = source.find("}", at)
    head = directive(source[at + 1:end]) if end != -1 else None
    if head is None:
        raise BadDirective(at)
    return head, end + 1


def write_template(template):
    """Return the source of a template."""
    shape, parts, body = template
    pieces = ["{shape " + write_shape(shape) + "}" if shape else "{shape}"]
    for name, nodes in parts:
        pieces.append("{part " + name + "}" + written(nodes) + "{end}")
    return "".join(pieces) + written(body)


def written(nodes):
    """Return the source of a list of nodes."""
    return "".join([written_node(node) for node in nodes])


def written_node(node):
    """Return the source of a node."""
    kind = node[0]
    if kind == "text":
        return node[1].replace("{", "{{")
    if kind == "hole":
        return "{" + written_path(node[1]) + "}"
    if kind == "data":
        return "{data " + written_path(node[1]) + "}"
    if kind == "slot":
        return "{slot}"
    if kind == "use":
        return "{use " + node[1] + "}" + written(node[2]) + "{end}"
    if kind == "for":
        return "{for " + node[1] + " in " + written_path(node[2]) + "}" + written(node[3]) + "{end}"
    second = "{else}" + written(node[3]) if node[3] else ""
    return "{if " + written_path(node[1]) + "}" + written(node[2]) + second + "{end}"


def written_path(path):
    """Return the text of a path."""
    variable, name = path
    return variable + "." + name if variable != "" else name
