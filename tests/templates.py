"""Random shapes and sources, the same ones in each run, and spoilt texts."""

import random

NAMES = ["a", "b", "ab", "title", "row", "texts", "tex", "truthy", "shaped", "z" * 16]


def random_shape(rng, depth=1):
    """A shape whose names are all different, nested at most 6 deep."""
    names = rng.sample(NAMES, rng.choice([0, 1, 1, 2, 2, 3]))
    return [(name, random_kind(rng, depth)) for name in names]


def random_kind(rng, depth):
    if depth < 6 and rng.random() < 0.5:
        return random_shape(rng, depth + 1)
    return rng.choice(["text", "truth", "data"])


def spoilt(rng, text, signs):
    """The text, with up to two signs left out, put in or changed, or with the rest cut off."""
    chars = list(text)
    for _ in range(rng.choice([1, 1, 2])):
        at = rng.randrange(len(chars) + 1)
        way = rng.random()
        if way < 0.3:
            del chars[at:at + 1]
        elif way < 0.6:
            chars.insert(at, rng.choice(signs))
        elif way < 0.85:
            chars[at:at + 1] = [rng.choice(signs)]
        else:
            del chars[at:]
    return "".join(chars)


LOOSE = [
    "{end}", "{end}", "{end}", "{else}", "{slot}", "{t}", "{data d}", "{if p}", "{if r.q}", "{for r in rows}",
    "{for s in r.inner}", "{r.n}", "{use a}", "{use b}", "x", "{{", "}", "\n", "{part a}", "{part b}",
]
RARE = ["{bad x}", "{", "{shape a text, a text}", "{shape}", "{ t}", "{shape }", "{T}", "{if p }"]
HEADS = ["{shape}", "{shape t text, d data, p truth, rows [n text, q truth, inner [x text]]}"]


def loose_source(rng):
    """A row of directives and texts, which mostly do not fit together."""
    head = rng.choice(HEADS * 10 + ["", "x", "{{", "{shape t text, t data}"])
    rows = [rng.choice(RARE if rng.random() < 0.05 else LOOSE) for _ in range(rng.randrange(14))]
    return head + "".join(rows)


# A record, rows and their inner rows have the fields of `PLAIN`; there are six truths and one more.
PLAIN = "t text, d data, p truth, q truth, o truth"
INNER = "[" + PLAIN + ", more [" + PLAIN + "]]"
SHAPE = "{shape " + PLAIN + ", u truth, rows [" + PLAIN + ", inner " + INNER + ", other " + INNER + "], lines " + INNER + "}"
LISTS = {"": ["rows", "lines"], "rows": ["inner", "other"], "lines": ["more"], "inner": ["more"], "other": ["more"]}


class Sources:
    """Random sources in which most paths lead to a field of the right kind."""

    def __init__(self, rng):
        self.rng = rng
        self.kinds = []

    def source(self):
        self.kinds = ["text", "hole", "data", "slot", "for", "for", "use", "use"] + ["if"] * self.rng.choice([1, 1, 8])
        names = ["a", "b", "c"][:self.rng.randrange(4)]
        text = SHAPE
        for number, name in enumerate(names):
            text += "{part " + name + "}" + self.nodes(2, True, names[:number], [("", "")]) + "{end}"
        return text + self.nodes(0, False, names, [("", "")])

    def nodes(self, depth, in_part, names, loops):
        many = self.rng.choice([0, 1, 1, 2, 3] if depth > 1 else [2, 3, 4, 5])
        return "".join(self.node(depth, in_part, names, loops) for _ in range(many))

    def node(self, depth, in_part, names, loops):
        kind = self.rng.choice(self.kinds)
        if kind == "use" and not names and self.rng.random() < 0.9 or kind == "slot" and not in_part:
            kind = "text"
        if kind == "text" or depth > 5:
            return self.rng.choice("xy") if self.rng.random() < 0.8 else "{{"
        if kind == "slot":
            return "{slot}"
        if kind == "hole":
            return "{" + self.variable(loops) + self.field("t") + "}"
        if kind == "data":
            return "{data " + self.variable(loops) + self.field("d") + "}"
        inside = (depth + 1, in_part, names)
        if kind == "if":
            text = "{if " + self.variable(loops) + self.field(self.rng.choice("pqo")) + "}" + self.nodes(*inside, loops)
            return text + ("{else}" + self.nodes(*inside, loops) if self.rng.random() < 0.4 else "") + "{end}"
        if kind == "use":
            name = self.rng.choice(names if names and self.rng.random() < 0.97 else ["a", "c", "zz"])
            return "{use " + name + "}" + self.nodes(*inside, loops) + "{end}"
        return self.loop(inside, loops)

    def loop(self, inside, loops):
        variable, list_name = loops[-1 if self.rng.random() < 0.9 else self.rng.randrange(len(loops))]
        name = self.rng.choice(LISTS.get(list_name, ["rows"]))
        new = "rsvw"[len(loops) - 1] if self.rng.random() < 0.9 else self.rng.choice("rsvw")
        path = (variable + "." if variable else "") + self.field(name)
        more = self.nodes(*inside, loops + [(new, name)]) if len(loops) < 4 else "z"
        return "{for " + new + " in " + path + "}" + more + "{end}"

    def variable(self, loops):
        name = self.rng.choice(loops)[0] if self.rng.random() < 0.97 else "s"
        return name + "." if name else ""

    def field(self, name):
        return name if self.rng.random() < 0.97 else self.rng.choice(["t", "d", "p", "u", "rows", "more", "zz"])


def sources(seed, many):
    """So many random sources whose directives fit together."""
    maker = Sources(random.Random(seed))
    return [maker.source() for _ in range(many)]
