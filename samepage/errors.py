"""The errors of the program. Each one is created with one integer, which is its attribute `at`."""


class SamepageError(ValueError):
    """The base class of all errors of the program."""

    def __init__(self, at):
        self.at = at


class Impossible(SamepageError):
    """No page has the first `at + 1` tokens."""


class MissingText(SamepageError):
    """There is no text for the mark `at`."""


class BadDirective(SamepageError):
    """The opening brace at the index `at` does not begin a directive."""


class TakenName(SamepageError):
    """A name is given a second time."""


class Misplaced(SamepageError):
    """The directive at the index `at` may not stand where it stands."""


class Unclosed(SamepageError):
    """The directive at the index `at` has no end."""


class TooDeep(SamepageError):
    """The directive at the index `at` stands in too many others."""


class BadShape(SamepageError):
    """After `at` characters, the text can no longer become a written shape."""


class UnknownPart(SamepageError):
    """There is no part of this name that may be used here."""


class UnknownName(SamepageError):
    """A path does not lead to a field."""


class WrongKind(SamepageError):
    """A field is of another kind than its use asks for."""


class FarList(SamepageError):
    """A loop runs over a list that is not in the nearest scope."""


class ListTwice(SamepageError):
    """A second loop runs over the same list."""


class TooLarge(SamepageError):
    """Too many nodes are laid."""


class BadNotation(SamepageError):
    """With the character at the index `at`, no notation can go on."""


class Misfit(SamepageError):
    """A value is not a record of the shape."""


class NotReached(SamepageError):
    """A situation is not reachable."""


class NotAdmissible(SamepageError):
    """A hole is not admissible in a state."""


class NoNeed(SamepageError):
    """A state does not have this need."""


class Refused(SamepageError):
    """The template is refused because of the hole with the number `at`."""


class TooManyTruths(SamepageError):
    """The conditions have too many different paths."""
