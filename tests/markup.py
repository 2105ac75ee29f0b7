"""Random sources with markup in them, the same ones in each run, and random records of their shape."""

import random

from samepage.errors import SamepageError
from samepage.templates.laying import lay_out
from samepage.templates.shapes import parse_shape
from samepage.templates.source import parse_template
from tests.common import CHARACTERS
from tests.test_values import VALUES

INNER = "[t text, d data, q truth]"
WRITTEN = "t text, d data, p truth, q truth, rows [t text, d data, p truth, inner " + INNER + "], lines [t text, d data, q truth]"
SHAPE = parse_shape(WRITTEN)
LISTS = {"": ["rows", "lines"], "rows": ["inner"], "lines": [], "inner": []}
TRUTHS = {"": ["p", "q"], "rows": ["p"], "lines": ["q"], "inner": ["q"]}

# Signs that lead anywhere.
LOOSE = ["<", "<b", "<b ", ">", ">", "</", "</b>", "<!", "<!-", "<!--", "-->", "-", "&", "&l", "&#3", ";", "t;", "4;", " "]
LOOSE += ["=", "=", "\"", "'", "x", "/", "<script>", "</script", "</s", "\n", "<a b=", "<a b=\"", "<a b='", "{{", "<style a", "}"]

# Rows that end where they begin, in a text. Each @ is a hole, and each # a data hole.
SAFE = ["x", "@", "@@", "<b>@</b>", "<@", "</@", "<!@", "<!-@", "&@", "&am@", "&#1@", "&lt@", "<b c=@>", "<b c=x@>", "<b c=&g@>"]
SAFE += ["<b c=@ d=@@>", "<b c=\"@\">", "<b c='@'>", "<b c=\"&@x@\"d='x&#@'>", "</b c=@>", "<!--x-->@", "<b/>", "{{@}", "a&amp;"]
SAFE += ["<script>a = #;</script>", "<style>#</s#</style c='@'>", "<script a=@>#</script>", "<!---->", "\n@\n", "&l@t;", "<@b>"]

# The same in a value, whatever its quotes are.
IN_VALUES = ["x", "@", "@@", "&@", "&#3@4;", "&l@t;", "=@", "<b", "&lt;", "/"]


class Markup:
    """Writes sources whose paths are right."""

    def __init__(self, rng, rows):
        self.rng = rng
        self.rows = rows

    def source(self):
        text = "{shape " + WRITTEN + "}"
        names = ["a", "b"][:self.rng.choice([0, 0, 1, 2])]
        for number, name in enumerate(names):
            text += "{part " + name + "}" + self.nodes(2, [("", "")], {}, names[:number], True) + "{end}"
        return text + self.nodes(0, [("", "")], {"": list(LISTS[""])}, names, False)

    def nodes(self, depth, loops, left, names, in_part):
        many = self.rng.choice([1, 1, 2, 3] if depth > 0 else [1, 2, 3, 4, 5])
        return "".join(self.node(depth, loops, left, names, in_part) for _ in range(many))

    def node(self, depth, loops, left, names, in_part):
        kind = self.rng.choice(["row", "row", "row", "if", "for", "use", "slot", "value"])
        inside = (names, in_part)
        variable, name = loops[-1]
        if kind == "slot" and in_part:
            return "{slot}"
        if kind == "use" and names and depth < 4:
            return "{use " + self.rng.choice(names) + "}" + self.nodes(depth + 1, loops, left, *inside) + "{end}"
        if kind == "if" and depth < 4:
            text = "{if " + self.path(loops, TRUTHS) + "}" + self.nodes(depth + 1, loops, left, *inside)
            if self.rng.random() < 0.5:
                text += "{else}" + self.nodes(depth + 1, loops, left, *inside)
            return text + "{end}"
        if kind == "for" and left.get(variable):
            lists = left[variable]
            taken = lists.pop(self.rng.randrange(len(lists)))
            new = "rsv"[len(loops) - 1]
            more = self.nodes(depth + 1, loops + [(new, taken)], {**left, new: list(LISTS[taken])}, *inside)
            return "{for " + new + " in " + dotted(variable, taken) + "}" + more + "{end}"
        if kind == "value" and self.rows is SAFE:
            front, back = self.rng.choice([("<b c=\"", "\">"), ("<b c='", "' d>"), ("<b c=x", ">"), ("</b c=", ">")])
            return front + Markup(self.rng, IN_VALUES).nodes(depth + 1, loops, left, [], False) + back
        return self.filled(self.rng.choice(self.rows), loops)

    def path(self, loops, fields):
        variable, name = self.rng.choice(loops)
        return dotted(variable, self.rng.choice(fields[name]))

    def filled(self, row, loops):
        """The row with holes for its signs; a loose row may be a hole itself."""
        if self.rows is LOOSE and self.rng.random() < 0.3:
            row = self.rng.choice("@#")
        text = ""
        for char in row:
            data = "{data " + dotted(self.rng.choice(loops)[0], "d") + "}"
            if char == "@" and self.rng.random() < 0.8:
                text += "{" + dotted(self.rng.choice(loops)[0], "t") + "}"
            elif char in "@#" and row not in ("&#3", "&#1@", "&#3@4;"):
                text += data
            else:
                text += data if char == "@" else char
        return text


def dotted(variable, name):
    return variable + "." + name if variable else name


def markup_sources(seed, many, rows):
    """So many random sources that can be laid out."""
    maker = Markup(random.Random(seed), rows)
    found = []
    while len(found) < many:
        source = maker.source()
        try:
            lay_out(parse_template(source))
        except SamepageError:
            continue
        if len(source) <= 2000:
            found.append(source)
    return found


# Texts that mean something to the reader somewhere.
PIECES = ["<", "b", ">", "/", "!", "-", "--", "-->", "&", "l", "t;", "lt;", ";", "#", "34;", "0;", "\"", "'", " ", "\n", "=", "</script>"]


def random_text(rng):
    kind = rng.random()
    if kind < 0.2:
        return ""
    if kind < 0.4:
        return "".join(rng.choice(CHARACTERS) for _ in range(rng.randrange(1, 6)))
    return "".join(rng.choice(PIECES) for _ in range(rng.randrange(1, 5)))


def random_record(rng, shape=SHAPE):
    """A record of a shape with texts that mean something to the reader."""
    return {name: random_field(rng, kind) for name, kind in shape}


def random_field(rng, kind):
    if isinstance(kind, list):
        return [random_record(rng, kind) for _ in range(rng.choice([0, 1, 1, 2, 3]))]
    if kind == "text":
        return random_text(rng)
    if kind == "truth":
        return rng.random() < 0.5
    return rng.choice([random_text(rng), {random_text(rng): [random_text(rng), 1]}, rng.choice(VALUES)])
