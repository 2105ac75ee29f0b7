"""Codings: what a hole puts into the page, for each state of the reader in which it may be reached."""

from samepage.errors import NotAdmissible
from samepage.marks.filling import is_open
from samepage.pages.references import least_reference

EMPTY_REFERENCE = "&;"

# The characters with an image, in ascending order, for each place in which a hole may be admissible.
WITH_IMAGE = {"text": "&<", "double": "\"&", "single": "&'", "bare": "\n &>", "equals": "\n &>", "raw": ""}


def is_admissible(kind, state):
    """Return True if a hole of the kind is admissible in the state, otherwise False."""
    return is_open(state) or kind == "data" and state[0] == "raw"


def coding(kind, state):
    """Return the coding of a hole of the kind in the state, a pair of a prefix and a list of images."""
    if not is_admissible(kind, state):
        raise NotAdmissible(0)
    return prefix_in(state), [(char, least_reference(char)) for char in WITH_IMAGE[state[0]]]


def prefix_in(state):
    """Return the prefix of the codings in a state."""
    place, _, pending = state
    # It settles what is pending, and begins a value without quotes.
    if place == "equals" or is_open(state) and pending != "":
        return EMPTY_REFERENCE
    return ""


def coded(coding, text):
    """Return the coded form of a text."""
    prefix, images = coding
    image_of = dict(images)
    return prefix + "".join([image_of.get(char, char) for char in text])


def is_smaller(first, second):
    """Return True if the first coding is smaller than the second one, otherwise False."""
    pairs = [(len(one), len(two)) for one, two in compared(first, second)]
    return all([one <= two for one, two in pairs]) and any([one < two for one, two in pairs])


def compared(first, second):
    """Return the list of what two codings differ in: pairs of their prefixes, and of the images of each character."""
    prefix, images = first
    other_prefix, other_images = second
    image_of = dict(images)
    other_image_of = dict(other_images)
    found = [(prefix, other_prefix)]
    # A character that is in neither list has the same image twice.
    for char, _ in images + other_images:
        found.append((image_of.get(char, char), other_image_of.get(char, char)))
    return found
