"""Points 401 to 403 a second time, with the help of Python's json; the tests hold the program against it."""

import functools
import itertools
import json

from tests.common import CHARACTERS


def model_quoted(text):
    if not set(text) <= set(CHARACTERS):
        return "not a text"
    return json.dumps(text).replace("<", "\\u003c")


def model_notation(value):
    """Point 402; the entries of a `Pairs` stand in their own order."""
    if isinstance(value, Pairs):
        return "{" + ",".join(model_quoted(key) + ":" + model_notation(part) for key, part in value.pairs) + "}"
    if isinstance(value, dict):
        return model_notation(Pairs(sorted(value.items())))
    if isinstance(value, list):
        return "[" + ",".join(map(model_notation, value)) + "]"
    if isinstance(value, str):
        return model_quoted(value)
    return json.dumps(value)


class Pairs:
    """The entries of a map in the order in which they were read."""

    def __init__(self, pairs):
        self.pairs = pairs


def depth_of(value):
    inside = value if isinstance(value, list) else [part for _, part in value.pairs] if isinstance(value, Pairs) else None
    return 0 if inside is None else 1 + max(map(depth_of, inside), default=0)


def no_number(text):
    raise ValueError(text)


def is_notation(text, most):
    """Return True for a notation, whatever the order of its keys: a text that is written again as it is."""
    if not all(char in CHARACTERS for char in text):
        return False
    try:
        value = json.loads(text, object_pairs_hook=Pairs, parse_float=no_number, parse_constant=no_number)
    except ValueError:
        return False
    return depth_of(value) <= most and model_notation(value) == text


# Whatever a notation is cut off in, one of these, perhaps a value, and closing brackets go on with it.
ENDINGS = [escape + more for escape in ("", "n", "003c", "03c", "3c", "c") for more in ("\"", "\":0")]
ENDINGS += ["", "0", "1", ":0", "\"a\":0", "]", "}"]
ENDINGS += [word[at:] for word in ("null", "true", "false") for at in range(1, len(word))]


def open_brackets(text):
    """The closing brackets that the text waits for, outside of its texts."""
    found = []
    for sign, _, _ in signs(text):
        if sign in "[{":
            found.append("]" if sign == "[" else "}")
        elif sign in "]}" and found:
            found.pop()
    return "".join(reversed(found))


def signs(text):
    """The signs of a text with their indexes and ends: brackets and the like, and whole texts."""
    at = 0
    while at < len(text):
        end = at + 1
        if text[at] == "\"":
            while end < len(text) and text[end] != "\"":
                end += 2 if text[end] == "\\" else 1
            end += 1
        yield text[at], at, end
        at = end


@functools.lru_cache(maxsize=None)
def some_notation_begins(text, most):
    waiting = open_brackets(text)
    return any(is_notation(text + ending + waiting[at:], most) for ending in ENDINGS for at in (0, 1))


def bad_notation(text, most=12):
    """Return `at` of BadNotation by a search over all prefixes; None if the text is read."""
    fault = None
    if not is_notation(text, most):
        fault = next((at for at in range(len(text)) if not some_notation_begins(text[:at + 1], most)), len(text))
    order = bad_order(text[:fault])
    return fault if order is None else order


def bad_order(text):
    """The index of the first key whose closing quote stands in the text and that is not greater than the one before.

    Up to its end, the text goes on as a notation.
    """
    last = []
    is_key = False
    for sign, at, end in signs(text):
        if sign == "{":
            last.append(None)
            is_key = True
        elif sign == "[":
            last.append("list")
            is_key = False
        elif sign in "]}":
            last.pop()
            is_key = False
        elif sign == ",":
            is_key = last[-1] != "list"
        elif sign == "\"" and is_key:
            if end > len(text):
                return None
            key = (json.loads(text[at:end]),)
            if last[-1] is not None and key <= last[-1]:
                return at
            last[-1] = key
            is_key = False
    return None


def short_texts(signs_used, most):
    """Every text of at most so many of the signs."""
    for count in range(most + 1):
        for row in itertools.product(signs_used, repeat=count):
            yield "".join(row)
