"""Marked tokens whose marks are filled with texts, and the places in which any text can be shown."""

from samepage.errors import MissingText

OPEN_PLACES = ("text", "bare", "double", "single", "equals")


def fill(tokens, texts):
    """Return the tokens with the texts in the place of the marks; texts and raw texts that are empty are left out."""
    found = []
    for token in tokens:
        if token[0] == "tag" or token[0] == "end":
            found.append(filled_tag(token, texts))
        else:
            string = filled(token[1], texts)
            if token[0] == "comment" or string != "":
                found.append((token[0], string))
    return found


def filled_tag(token, texts):
    """Return a tag or end tag with strings in the place of its lists of pieces."""
    kind, pieces, attributes = token
    # The name is filled before the attributes, so that the first mark without a text is found first.
    name = filled(pieces, texts)
    return (kind, name, [(filled(key, texts), filled_value(value, texts)) for key, value in attributes])


def filled_value(value, texts):
    """Return the string of a value, or None if there is no value."""
    return None if value is None else filled(value, texts)


def filled(pieces, texts):
    """Return the string of a list of pieces."""
    return "".join([filled_piece(piece, texts) for piece in pieces])


def filled_piece(piece, texts):
    """Return the string of a piece, which is a string or a mark."""
    if isinstance(piece, str):
        return piece
    if piece >= len(texts):
        raise MissingText(piece)
    return texts[piece]


def marks_of(tokens):
    """Return the list of all marks of marked tokens, in order."""
    found = []
    for token in tokens:
        found.extend(marks_in(token[1]))
        if token[0] == "tag" or token[0] == "end":
            for key, value in token[2]:
                found.extend(marks_in(key))
                if value is not None:
                    found.extend(marks_in(value))
    return found


def marks_in(pieces):
    """Return the list of the marks among pieces."""
    return [piece for piece in pieces if not isinstance(piece, str)]


def is_open(state):
    """Return True if a text of any characters can be shown in the place of the state, otherwise False."""
    return state[0] in OPEN_PLACES


def hopeless_text(state):
    """Return a text that no page can have in the place of the state, or None if the place is open."""
    place, element, _ = state
    if is_open(state):
        return None
    if place == "comment":
        return "-->"
    if place == "raw":
        return "</" + element + ">"
    return ">"
