"""What several tests need: the signs of the language, spelled out from the document and not from the program."""

CHARACTERS = [chr(number) for number in [10] + list(range(32, 127)) if number != 37]
LETTERS = "abcdefghijklmnopqrstuvwxyzABCDEFGHIJKLMNOPQRSTUVWXYZ"
DIGITS = "0123456789"
BLANKS = " \n"

START = ("text", "", "")
RAW_NAMES = ["script", "style"]


def numeric_references():
    """Each numeric reference in each of its writings, with its character."""
    found = {}
    for char in CHARACTERS:
        for width in (1, 2, 3):
            digits = str(ord(char)).zfill(width)
            found["&#" + digits + ";"] = char
    return found


NAMED = {"&;": "", "&lt;": "<", "&gt;": ">", "&amp;": "&"}
REFERENCES = {**NAMED, **numeric_references()}
BEGINNINGS = sorted({text[:size] for text in REFERENCES for size in range(1, len(text))} - set(REFERENCES))
