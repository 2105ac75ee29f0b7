"""Reads words out of a text, for all that is read from left to right up to its first error."""


def matched_end(text, at, word):
    """Return the index up to which the text goes on with the word; that is `at + len(word)` if it is whole there."""
    for char in word:
        if text[at:at + 1] != char:
            return at
        at += 1
    return at
