"""The notation of values, written and read."""

from samepage.errors import BadNotation
from samepage.matching import matched_end
from samepage.pages.characters import is_digit, is_text

WORDS = {"null": None, "true": True, "false": False}

# What stands behind a backslash, and what it means.
ESCAPES = {"\"": "\"", "\\": "\\", "n": "\n", "u003c": "<"}


def notation(value):
    """Return the notation of a value."""
    if value is None:
        return "null"
    if isinstance(value, bool):
        return "true" if value else "false"
    if isinstance(value, int):
        return str(value)
    if isinstance(value, str):
        return quoted(value)
    if isinstance(value, list):
        return "[" + ",".join([notation(part) for part in value]) + "]"
    return "{" + ",".join([quoted(key) + ":" + notation(value[key]) for key in sorted(value)]) + "}"


def quoted(text):
    """Return the notation of a text."""
    # The backslashes of the text come first, before there are those that are written here.
    text = text.replace("\\", "\\\\").replace("\"", "\\\"")
    return "\"" + text.replace("\n", "\\n").replace("<", "\\u003c") + "\""


def read_notation(text, most=12):
    """Return the value of a notation, in which lists and maps are nested at most `most` deep."""
    value, at = read_value(text, 0, most)
    if at < len(text):
        raise BadNotation(at)
    return value


def read_value(text, at, most):
    """Return the value whose notation begins at the index, and the index behind it."""
    char = text[at:at + 1]
    if char == "\"":
        return read_quoted(text, at)
    if char == "[" and most > 0:
        return read_list(text, at + 1, most - 1)
    if char == "{" and most > 0:
        return read_map(text, at + 1, most - 1)
    if char == "-" or is_digit(char):
        return read_integer(text, at)
    for word in WORDS:
        if char == word[0]:
            return WORDS[word], behind(text, at, word)
    raise BadNotation(at)


def read_list(text, at, most):
    """Return the list whose bracket stands before the index, and the index behind it."""
    found = []
    if text[at:at + 1] == "]":
        return found, at + 1
    value, at = read_value(text, at, most)
    found.append(value)
    while text[at:at + 1] == ",":
        value, at = read_value(text, at + 1, most)
        found.append(value)
    return found, behind(text, at, "]")


def read_map(text, at, most):
    """Return the map whose brace stands before the index, and the index behind it."""
    found = {}
    if text[at:at + 1] == "}":
        return found, at + 1
    key, at = read_key(text, at, None)
    found[key], at = read_value(text, at, most)
    while text[at:at + 1] == ",":
        key, at = read_key(text, at + 1, key)
        found[key], at = read_value(text, at, most)
    return found, behind(text, at, "}")


def read_key(text, at, last):
    """Return the key that begins at the index, behind the last one, and the index behind its colon."""
    if text[at:at + 1] != "\"":
        raise BadNotation(at)
    key, end = read_quoted(text, at)
    if last is not None and key <= last:
        raise BadNotation(at)
    return key, behind(text, end, ":")


def read_quoted(text, at):
    """Return the text whose opening quote has the index, and the index behind its closing quote."""
    chars = []
    at += 1
    while text[at:at + 1] != "\"":
        char, at = read_char(text, at)
        chars.append(char)
    return "".join(chars), at + 1


def read_char(text, at):
    """Return the character of a text in quotes that is written at the index, and the index behind it."""
    char = text[at:at + 1]
    if char == "\\":
        return read_escape(text, at + 1)
    if char == "" or char == "<" or char == "\n" or not is_text(char):
        raise BadNotation(at)
    return char, at + 1


def read_escape(text, at):
    """Return the character that is written with a backslash before the index, and the index behind it."""
    for sign in ESCAPES:
        if text[at:at + 1] == sign[0]:
            return ESCAPES[sign], behind(text, at, sign)
    raise BadNotation(at)


def read_integer(text, at):
    """Return the integer whose notation begins at the index, and the index behind it."""
    is_negative = text[at] == "-"
    end = at + 1 if is_negative else at
    first = text[end:end + 1]
    if not is_digit(first) or is_negative and first == "0":
        raise BadNotation(end)
    end += 1
    # Behind a leading zero there is no digit.
    while first != "0" and is_digit(text[end:end + 1]):
        end += 1
    return int(text[at:end]), end


def behind(text, at, word):
    """Return the index behind the word, with which the text has to go on."""
    end = matched_end(text, at, word)
    if end < at + len(word):
        raise BadNotation(end)
    return end
