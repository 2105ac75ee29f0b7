"""Which lists of tokens some page has. Each token depends on the one or two before it only."""

from samepage.pages.characters import is_blank, is_in_name, is_letter
from samepage.pages.machine import RAW_NAMES


def first_fault(tokens):
    """Return the index of the first token up to which the tokens are not possible, or None if there is none."""
    for at in range(len(tokens)):
        if not fits(tokens, at):
            return at
    return None


def fits(tokens, at):
    """Return True if the token at the index may stand behind those before it, which are possible."""
    token = tokens[at]
    kind = token[0]
    behind = tokens[at - 1][0] if at > 0 else ""
    name = raw_name(tokens, at)
    if kind == "raw":
        return behind == "tag" and name != "" and is_raw_text(token[1], name)
    if name != "" and (kind != "end" or token[1] != name):
        return False
    if kind == "text":
        return token[1] != "" and behind != "text"
    if kind == "comment":
        return "-->" not in token[1]
    return is_tag_name(token[1]) and all([is_attribute_name(key) for key, _ in token[2]])


def raw_name(tokens, at):
    """Return the name of the element in whose raw text the token at the index begins, or the empty text."""
    if at > 0 and tokens[at - 1][0] == "raw":
        at -= 1
    if at > 0 and tokens[at - 1][0] == "tag" and tokens[at - 1][1] in RAW_NAMES:
        return tokens[at - 1][1]
    return ""


def is_raw_text(text, name):
    """Return True if the text can be the raw text of an element with this name."""
    return text != "" and not any([("</" + name + end) in text for end in "\n />"])


def is_tag_name(name):
    """Return True if the text can be the name of a tag."""
    return name != "" and is_letter(name[0]) and all([is_in_name(char) for char in name])


def is_attribute_name(name):
    """Return True if the text can be the name of an attribute."""
    if name == "" or ends_name(name[0]):
        return False
    return not any([ends_name(char) or char == "=" for char in name[1:]])


def ends_name(char):
    """Return True if no name of an attribute contains the character."""
    return is_blank(char) or char == "/" or char == ">"
