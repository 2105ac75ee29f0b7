"""The characters of pages and their classes."""

# The character with the number 37 is none of the characters of pages: it is missing between the two.
FROM_32 = " !\"#$"
FROM_38 = "&'()*+,-./0123456789:;<=>?@ABCDEFGHIJKLMNOPQRSTUVWXYZ[\\]^_`abcdefghijklmnopqrstuvwxyz{|}~"


def numbered(number):
    """Return the character with this number, or None if there is none."""
    if number == 10:
        return "\n"
    if 32 <= number < 32 + len(FROM_32):
        return FROM_32[number - 32]
    if 38 <= number < 38 + len(FROM_38):
        return FROM_38[number - 38]
    return None


def is_text(string):
    """Return True if the string consists of characters of pages, otherwise False."""
    return all([numbered(ord(char)) is not None for char in string])


def is_numbered_between(low, high):
    """Return True if some character has a number from `low` to `high`, otherwise False."""
    return low <= 10 <= high or (low <= 36 and high >= 32) or (low <= 126 and high >= 38)


def is_letter(char):
    """Return True if the character is a letter, otherwise False."""
    return "a" <= char <= "z" or "A" <= char <= "Z"


def is_digit(char):
    """Return True if the character is a digit, otherwise False."""
    return "0" <= char <= "9"


def is_blank(char):
    """Return True if the character is a space or a newline, otherwise False."""
    return char == " " or char == "\n"


def is_in_name(char):
    """Return True if the character may go on with the name of a tag, otherwise False."""
    return is_letter(char) or is_digit(char) or char == "-"
