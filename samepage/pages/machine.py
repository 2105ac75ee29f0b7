"""The reader of pages: one step for each character, and the end of a page.

A state is a tuple of a place, an element and the pending text. What the document calls to read again is, in each
place, a call of the function for the place in which the character is then read.
"""

from samepage.pages.characters import is_blank, is_in_name, is_letter
from samepage.pages.references import is_beginning, reference_text

START = ("text", "", "")

RAW_NAMES = ("script", "style")

# The kind of the events of characters, for each place that can have pending text.
KINDS = {"text": "text", "bare": "value", "double": "value", "single": "value", "comment": "comment", "raw": "raw"}

QUOTES = {"double": "\"", "single": "'"}


def step(state, char):
    """Return the new state and the list of events, when the character is read in the state."""
    place, element, pending = state
    if place == "text":
        return in_text(pending, char)
    if place == "tag":
        return in_tag(element, char)
    if place == "gap":
        return in_gap(element, char)
    if place == "name":
        return in_name(element, char)
    if place == "equals":
        return in_equals(element, char)
    if place == "comment":
        return in_comment(pending, char)
    if place == "raw":
        return in_raw(element, pending, char)
    return in_value(place, element, pending, char)


def finish(state):
    """Return the list of the events at the end of the page."""
    found = settled(state)
    if state[0] != "text" and state[0] != "raw":
        found.append(("close", ""))
    return found


def settled(state):
    """Return the list of the events of the pending characters of a state."""
    place, _, pending = state
    return [(KINDS[place], char) for char in pending]


def in_text(pending, char):
    """Step in the place `text`."""
    if pending.startswith("<"):
        taken = after_less(pending, char)
    else:
        taken = after_beginning("text", "", pending, char)
    if taken is not None:
        return taken
    found = settled(("text", "", pending))
    if char == "<" or char == "&":
        return ("text", "", char), found
    return START, found + [("text", char)]


def after_less(pending, char):
    """Step in the place `text` behind a pending `<` and more; None if that is to be settled."""
    if pending == "<" and is_letter(char):
        state, found = in_tag("", char)
        return state, [("tag", "")] + found
    if pending == "</" and is_letter(char):
        state, found = in_tag("-", char)
        return state, [("end", "")] + found
    if pending == "<!-" and char == "-":
        return ("comment", "", ""), [("comment", "")]
    if pending == "<" and (char == "/" or char == "!") or pending == "<!" and char == "-":
        return ("text", "", pending + char), []
    return None


def after_beginning(place, element, pending, char):
    """Step behind a pending beginning of a reference; None if there is none, or it is to be settled."""
    if pending == "":
        return None
    text = reference_text(pending + char)
    if text is not None:
        return (place, element, ""), [(KINDS[place], meant) for meant in text]
    if is_beginning(pending + char):
        return (place, element, pending + char), []
    return None


def in_tag(element, char):
    """Step in the place `tag`."""
    if is_in_name(char):
        return ("tag", longer_element(element, char), ""), [("name", char)]
    if element in RAW_NAMES:
        return in_gap(element, char)
    return in_gap("-", char)


def longer_element(element, char):
    """Return the element behind one more character of the name; `-` begins no name, so it stays."""
    longer = element + char
    if any([name.startswith(longer) for name in RAW_NAMES]):
        return longer
    return "-"


def in_gap(element, char):
    """Step in the place `gap`."""
    if is_blank(char) or char == "/":
        return ("gap", element, ""), []
    if char != ">":
        return ("name", element, ""), [("attribute", char)]
    if element == "-":
        return START, [("close", "")]
    return ("raw", element, ""), [("close", "")]


def in_name(element, char):
    """Step in the place `name`."""
    if is_blank(char):
        return ("gap", element, ""), []
    if char == "/" or char == ">":
        return in_gap(element, char)
    if char == "=":
        return ("equals", element, ""), []
    return ("name", element, ""), [("name", char)]


def in_equals(element, char):
    """Step in the place `equals`."""
    for place in QUOTES:
        if char == QUOTES[place]:
            return (place, element, ""), [("value", "")]
    if is_blank(char) or char == ">":
        return in_gap(element, char)
    state, found = in_value("bare", element, "", char)
    return state, [("value", "")] + found


def in_value(place, element, pending, char):
    """Step in one of the places `bare`, `double` and `single`."""
    taken = after_beginning(place, element, pending, char)
    if taken is not None:
        return taken
    found = settled((place, element, pending))
    if place == "bare" and (is_blank(char) or char == ">"):
        state, more = in_gap(element, char)
        return state, found + more
    if place != "bare" and char == QUOTES[place]:
        return ("gap", element, ""), found
    if char == "&":
        return (place, element, char), found
    return (place, element, ""), found + [("value", char)]


def in_comment(pending, char):
    """Step in the place `comment`."""
    if pending == "--" and char == ">":
        return START, [("close", "")]
    if pending == "--" and char == "-":
        return ("comment", "", pending), [("comment", char)]
    if char == "-":
        return ("comment", "", pending + char), []
    return ("comment", "", ""), settled(("comment", "", pending)) + [("comment", char)]


def in_raw(element, pending, char):
    """Step in the place `raw`."""
    goal = "</" + element
    if pending == goal and (is_blank(char) or char == "/" or char == ">"):
        state, found = in_gap("-", char)
        return state, [("end", "")] + [("name", letter) for letter in element] + found
    if goal.startswith(pending + char):
        return ("raw", element, pending + char), []
    found = settled(("raw", element, pending))
    if goal.startswith(char):
        return ("raw", element, char), found
    return ("raw", element, ""), found + [("raw", char)]
