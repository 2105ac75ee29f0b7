"""The shortest page of given tokens.

A page of tokens is put together of pieces that do not depend on each other: the reader is in the same state behind
each piece, however the piece is written. So the shortest page consists of the shortest pieces, and the first page in
the order of strings of the first pieces.
"""

from samepage.errors import Impossible
from samepage.pages.characters import is_in_name, is_letter
from samepage.pages.possible import first_fault, raw_name
from samepage.pages.references import least_reference, reference_text

# The characters that never stand for themselves in a place.
NEVER = {"text": "", "bare": "\n >", "double": "\"", "single": "'"}


def shortest_page(tokens):
    """Return the shortest page that has the tokens, and of several the first one in the order of strings."""
    fault = first_fault(tokens)
    if fault is not None:
        raise Impossible(fault)
    return "".join([written(tokens, at) for at in range(len(tokens))])


def written(tokens, at):
    """Return the piece of the page for the token at the index."""
    token = tokens[at]
    is_last = at == len(tokens) - 1
    if token[0] == "raw":
        return token[1]
    if token[0] == "text":
        return shown(token[1], "text")
    if token[0] == "comment":
        return "<!--" + token[1] + ("" if is_last else "-->")
    return written_tag(token, raw_name(tokens, at) != "", is_last)


def written_tag(token, is_in_raw, is_last):
    """Return the piece for a tag or end tag. The end of the page closes the last one."""
    kind, name, attributes = token
    head = ("</" if kind == "end" else "<") + name
    tail = "" if is_last else ">"
    if attributes == []:
        # Inside of a raw text, an end tag is one only with a character behind its name.
        return head + ("\n" if is_in_raw and is_last else tail)
    parts = [head]
    # Other characters than those of names end the name themselves, except inside of a raw text.
    if is_in_raw or is_in_name(attributes[0][0][0]):
        parts.append("\n")
    for key, value in attributes[:-1]:
        parts.append(key + written_value(value, "\n", True))
    key, value = attributes[-1]
    parts.append(key + written_value(value, "", not is_last))
    return "".join(parts) + tail


def written_value(value, separator, is_closed):
    """Return the piece behind an attribute's name.

    The separator stands where the next attribute would otherwise go on with this one. A value in quotes needs none,
    but its second quote; this is left out if the end of the page closes the value.
    """
    if value is None:
        return separator
    choices = ["=" + bare_value(value) + separator]
    for place, quote in (("double", "\""), ("single", "'")):
        choices.append("=" + quote + shown(value, place) + (quote if is_closed else ""))
    return min(choices, key=lambda choice: (len(choice), choice))


def bare_value(value):
    """Return a value without quotes."""
    # Without the empty reference, there would be no value, or the quote would begin one in quotes.
    if value == "" or value[0] == "\"" or value[0] == "'":
        return "&;" + shown(value, "bare")
    return shown(value, "bare")


def shown(text, place):
    """Return the shortest characters, and of several the first ones, that are read as the text in the place."""
    parts = []
    at = 0
    while at < len(text):
        size = misread_size(text, at, place)
        if size > 0:
            parts.append(parted(text[at:at + size]))
            at += size
        else:
            parts.append(least_reference(text[at]) if text[at] in NEVER[place] else text[at])
            at += 1
    return "".join(parts)


def misread_size(text, at, place):
    """Return the length of the text at the index that would be a reference, a tag or a comment; 0 if none would."""
    if text[at] == "&":
        for size in range(2, 7):
            if reference_text(text[at:at + size]) is not None:
                return size
    if text[at] == "<" and place == "text":
        return markup_size(text[at + 1:at + 4])
    return 0


def markup_size(behind):
    """Return the length of what begins a tag, an end tag or a comment, `<` included; 0 if nothing does."""
    if is_letter(behind[:1]):
        return 2
    if behind[:1] == "/" and is_letter(behind[1:2]):
        return 3
    if behind == "!--":
        return 4
    return 0


def parted(text):
    """Return the text with the empty reference in it, where the result comes first in the order of strings.

    It is shorter than a reference for any of the characters, and no two texts that are parted overlap.
    """
    return min([text[:at] + "&;" + text[at:] for at in range(1, len(text))])
