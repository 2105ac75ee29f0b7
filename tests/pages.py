"""Many pages: every one up to some length over some signs, behind beginnings that lead to each place."""

import itertools

# Each entry: what stands in front, the pieces that follow, and how many of them at most.
FAMILIES = [
    ("", "<a/> =\"'&;\n", 4),
    ("", "<!->ab", 6),
    ("", "<s/!-", 6),
    ("", ["<", "/", "!", "-", ">", "a", "&", ";", "lt", "#", "60", "1"], 4),
    ("", ["&", "#", ";", "3", "8", "1", "0", "a", "<"], 5),
    ("", ["<!--", "-", "--", ">", "-->", "a", "<b>", "&;"], 4),
    ("<a", "b-1/> =\"'\n<", 4),
    ("</a", "b-1/> =\"'\n<", 4),
    ("<a ", "b=/> \"'&\n", 4),
    ("<a b=", "x=/> \"'&;\n", 5),
    ("<a b=x", "x=/> \"'&;", 4),
    ("<a b=\"", "x/> \"'&;=", 4),
    ("<a b='", "x/> \"'&;=", 4),
    ("<a b=", ["&", "l", "t", "lt;", "gt;", "#", "3", "4", ";", "\"", " "], 4),
    ("<a b=\"", ["&", "l", "lt;", "#", "34", "10", ";", "\"", ">"], 4),
    ("<a b='", ["&", "l", "lt;", "#", "39", "10", ";", "'", ">"], 4),
    ("<a b=1", ["\n", " ", "/", "c", "=", "2", "\"", "'", ">", "x"], 4),
    ("<", ["s", "script", "style", "x", "-", " ", "/", ">", "=", "</", "\""], 5),
    ("<script>", ["<", "/", "</", "script", "style", ">", " ", "x", "\n", "<!--", "&lt;"], 4),
    ("<style>", ["<", "</", "</style", "</script", ">", "/", "x", " b=1", "\""], 4),
    ("<script a=", ["\"", "'", "&", "x", ">", " ", "</script", "/"], 4),
    ("<script></script", "> /x\n\"=<", 4),
]


def pages_of(front, pieces, most):
    """Every page of the family, the shorter rows of pieces first."""
    for count in range(most + 1):
        for row in itertools.product(pieces, repeat=count):
            yield front + "".join(row)


def all_pages():
    """Every page of every family."""
    for family in FAMILIES:
        yield from pages_of(*family)
