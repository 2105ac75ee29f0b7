"""Trials: texts with which a page reads to other tokens, if the coding of a hole lacks something."""

from samepage.codings.coding import WITH_IMAGE, prefix_in
from samepage.errors import NoNeed
from samepage.marks.filling import is_open
from samepage.pages.references import is_beginning, reference_text

# With these behind what is pending, there is a tag, an end tag or a comment.
BEHIND_PENDING = {"<": "b", "</": "b", "<!": "--", "<!-": "-"}

# The characters of references behind the `&`, in ascending order.
IN_REFERENCES = "#0123456789;aglmpt"


def needs(state):
    """Return the list of the needs of a state, in ascending order."""
    if not is_open(state):
        return []
    prefix = [""] if prefix_in(state) != "" else []
    return prefix + list(WITH_IMAGE[state[0]])


def trial(state, need):
    """Return the trial of a need of the state."""
    if need not in needs(state):
        raise NoNeed(0)
    if need == "<":
        return "<b"
    if need == "&":
        return "&lt;"
    return need if need != "" else trial_of_prefix(state)


def trial_of_prefix(state):
    """Return the trial of the empty text, the need of a prefix."""
    place, _, pending = state
    if place == "equals":
        return "\""
    if pending in BEHIND_PENDING:
        return BEHIND_PENDING[pending]
    return reference_end(pending)


def reference_end(beginning):
    """Return the shortest text that makes a beginning a reference, and of several the first one."""
    layer = [beginning]
    while True:
        longer = [text + char for text in layer for char in IN_REFERENCES]
        for text in longer:
            if reference_text(text) is not None:
                return text[len(beginning):]
        layer = [text for text in longer if is_beginning(text)]
