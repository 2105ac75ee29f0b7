"""The events and the tokens of whole pages."""

from samepage.pages.grouping import grouped
from samepage.pages.machine import START, finish, step
from samepage.pages.possible import first_fault


def events(page):
    """Return the list of all events of a page, those at its end included."""
    state = START
    found = []
    for char in page:
        state, more = step(state, char)
        found.extend(more)
    found.extend(finish(state))
    return found


def read(page):
    """Return the list of the tokens of a page."""
    return grouped(events(page), joined)


def joined(items):
    """Return the string of a list of characters and empty texts."""
    return "".join(items)


def is_possible(tokens):
    """Return True if some page has these tokens, otherwise False."""
    return first_fault(tokens) is None
