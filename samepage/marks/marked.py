"""The reader of rows: items are characters, and marks in the place of texts that are not known yet."""

from samepage.pages.grouping import grouped
from samepage.pages.machine import KINDS, START, finish, settled, step


def mark_step(state, number):
    """Return the new state and the list of events, when the mark with this number is read in the state."""
    place, element, _ = state
    if place in KINDS:
        return (place, element, ""), settled(state) + [(KINDS[place], number)]
    if place == "equals":
        return ("bare", element, ""), [("value", ""), ("value", number)]
    if place == "tag":
        return ("tag", "-", ""), [("name", number)]
    if place == "gap":
        return ("name", element, ""), [("attribute", number)]
    return ("name", element, ""), [("name", number)]


def marked_events(row):
    """Return the list of all events of a row, those at the end of the page included."""
    state, found = walked(row)
    return found + finish(state)


def read_row(row):
    """Return the list of the marked tokens of a row."""
    return grouped(marked_events(row), pieces)


def state_after(row):
    """Return the state of the reader behind the last item of a row."""
    state, _ = walked(row)
    return state


def walked(row):
    """Return the state behind a row and the list of the events on the way to it."""
    state = START
    found = []
    for item in row:
        if isinstance(item, int):
            state, more = mark_step(state, item)
        else:
            state, more = step(state, item)
        found.extend(more)
    return state, found


def pieces(items):
    """Return the pieces of a list of characters, empty texts and marks."""
    found = []
    chars = []
    for item in items:
        if isinstance(item, int):
            found.extend(string_piece(chars))
            found.append(item)
            chars = []
        else:
            chars.append(item)
    return found + string_piece(chars)


def string_piece(chars):
    """Return the list of the one piece that characters form; the empty list, since no piece is empty."""
    string = "".join(chars)
    return [string] if string != "" else []
