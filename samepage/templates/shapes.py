"""Names, and shapes: lists of fields, which are pairs of a name and a kind."""

from samepage.errors import BadShape, TakenName
from samepage.matching import matched_end

# The words of directives and kinds, which are not names.
WORDS = ("data", "else", "end", "for", "if", "in", "part", "shape", "slot", "text", "truth", "use")

KINDS = ("text", "truth", "data")

LONGEST_NAME = 16
DEEPEST_SHAPE = 6


def is_name(text):
    """Return True if the text is a name, otherwise False."""
    return text != "" and letters_end(text, 0) == len(text) and text not in WORDS


def parse_shape(text):
    """Return the shape that the text is written for."""
    shape = written_shape(text)
    if has_taken_name(shape):
        raise TakenName(0)
    return shape


def written_shape(text):
    """Return the shape that the text is written for, in which a name may be taken twice."""
    if text == "":
        return []
    shape, at = read_fields(text, 0, 1)
    if at < len(text):
        raise BadShape(at)
    return shape


def has_taken_name(shape):
    """Return True if two fields of the shape, or of one within it, have the same name."""
    names = [name for name, _ in shape]
    if len(set(names)) < len(names):
        return True
    return any([isinstance(kind, list) and has_taken_name(kind) for _, kind in shape])


def read_fields(text, at, depth):
    """Return the fields that begin at the index, one or more of them, and the index behind the last one."""
    field, at = read_field(text, at, depth)
    fields = [field]
    while text[at:at + 1] == ",":
        field, at = read_field(text, behind(text, at, ", "), depth)
        fields.append(field)
    return fields, at


def read_field(text, at, depth):
    """Return the field that begins at the index, and the index behind it."""
    end = letters_end(text, at)
    name = text[at:end]
    # With one more letter a word would be a name, so the error is not in it, but behind it.
    if not is_name(name):
        raise BadShape(end)
    kind, at = read_kind(text, behind(text, end, " "), depth)
    return (name, kind), at


def read_kind(text, at, depth):
    """Return the kind that begins at the index, and the index behind it."""
    if text[at:at + 1] == "[" and depth < DEEPEST_SHAPE:
        return read_nested(text, at + 1, depth + 1)
    ends = [matched_end(text, at, kind) for kind in KINDS]
    for kind, end in zip(KINDS, ends):
        if end == at + len(kind):
            return kind, end
    raise BadShape(max(ends))


def read_nested(text, at, depth):
    """Return the shape in brackets that begins behind the opening one, and the index behind the closing one."""
    if text[at:at + 1] == "]":
        return [], at + 1
    shape, at = read_fields(text, at, depth)
    return shape, behind(text, at, "]")


def letters_end(text, at):
    """Return the index behind the small letters from the index on, as many as a name may have."""
    end = at
    while end < at + LONGEST_NAME and "a" <= text[end:end + 1] <= "z":
        end += 1
    return end


def behind(text, at, word):
    """Return the index behind the word, with which the text has to go on."""
    end = matched_end(text, at, word)
    if end < at + len(word):
        raise BadShape(end)
    return end


def write_shape(shape):
    """Return the text of a shape."""
    return ", ".join([name + " " + written_kind(kind) for name, kind in shape])


def written_kind(kind):
    """Return the text of a kind."""
    return "[" + write_shape(kind) + "]" if isinstance(kind, list) else kind


def field_kind(shape, name):
    """Return the kind of the field with this name, or None if there is none."""
    for field, kind in shape:
        if field == name:
            return copied_kind(kind)
    return None


def copied_kind(kind):
    """Return the kind; a shape is copied, so that changing it does not change the one that it stands in."""
    if not isinstance(kind, list):
        return kind
    return [(name, copied_kind(inner)) for name, inner in kind]


def depth_of(shape):
    """Return how deep the shape is nested; 1 if it contains no shape."""
    return 1 + max([depth_of(kind) for _, kind in shape if isinstance(kind, list)], default=0)
