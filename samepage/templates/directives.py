"""Directives: what may stand between two braces of a source."""

from samepage.errors import BadShape
from samepage.templates.shapes import is_name, written_shape

ALONE = ("else", "end", "slot")
WITH_NAME = ("part", "use")
WITH_PATH = ("data", "if")


def directive(text):
    """Return the tuple of the kind and the operands of a directive, or None if the text is not one.

    A directive that is a path alone has the kind `hole`.
    """
    if text == "shape":
        return ("shape", [])
    if text.startswith("shape "):
        return with_shape(text[len("shape "):])
    words = text.split(" ")
    if len(words) == 1:
        return (text,) if text in ALONE else with_path(("hole",), text)
    if len(words) == 2 and words[0] in WITH_NAME and is_name(words[1]):
        return (words[0], words[1])
    if len(words) == 2 and words[0] in WITH_PATH:
        return with_path((words[0],), words[1])
    if len(words) == 4 and words[0] == "for" and is_name(words[1]) and words[2] == "in":
        return with_path(("for", words[1]), words[3])
    return None


def with_shape(text):
    """Return the directive with this shape, or None if the text is not that of a shape with fields."""
    try:
        shape = written_shape(text)
    except BadShape:
        return None
    return ("shape", shape) if shape != [] else None


def with_path(head, text):
    """Return the directive that ends with this path, or None if the text is not that of a path."""
    names = text.split(".")
    if len(names) > 2 or not all([is_name(name) for name in names]):
        return None
    variable = names[0] if len(names) == 2 else ""
    return head + ((variable, names[-1]),)
