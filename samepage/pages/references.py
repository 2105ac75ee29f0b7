"""References: what they stand for, how they begin, and the least one of each character."""

from samepage.pages.characters import is_digit, is_numbered_between, numbered

NAMED = {"&;": "", "&lt;": "<", "&gt;": ">", "&amp;": "&"}


def reference_text(text):
    """Return the text that a reference stands for, or None if `text` is not a reference."""
    if text in NAMED:
        return NAMED[text]
    digits = text[2:-1]
    if text.startswith("&#") and text.endswith(";") and is_number(digits):
        return numbered(int(digits))
    return None


def is_beginning(text):
    """Return True if the text is a beginning of a reference, otherwise False."""
    if text == "" or reference_text(text) is not None:
        return False
    if text == "&#" or any([reference.startswith(text) for reference in NAMED]):
        return True
    digits = text[2:]
    return text.startswith("&#") and is_number(digits) and may_become_character(digits)


def least_reference(char):
    """Return the shortest reference that stands for a character, and of several the first one."""
    if char == "<":
        return "&lt;"
    if char == ">":
        return "&gt;"
    # `&amp;` is as long as `&#38;` and comes behind it, so it is never the least one.
    return "&#" + str(ord(char)) + ";"


def is_number(digits):
    """Return True if the text consists of one to three digits, otherwise False."""
    return 1 <= len(digits) <= 3 and all([is_digit(char) for char in digits])


def may_become_character(digits):
    """Return True if the digits, and perhaps more behind them, are the number of a character."""
    low = int(digits)
    high = low
    for _ in range(len(digits), 4):
        if is_numbered_between(low, high):
            return True
        low = low * 10
        high = high * 10 + 9
    return False
