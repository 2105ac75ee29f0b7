"""Values: None, booleans, integers, texts, and lists and maps of values."""

from samepage.pages.characters import is_text

DEEPEST_VALUE = 12
MOST_PARTS = 500


def is_value(value):
    """Return True if it is a value, otherwise False."""
    due = [(value, 1)]
    many = 0
    while due:
        part, depth = due.pop()
        many += 1
        if many > MOST_PARTS or depth > DEEPEST_VALUE and is_nest(part) or not is_form(part):
            return False
        due.extend([(inner, depth + 1) for inner in inner_values(part)])
    return True


def is_nest(part):
    """Return True if it is a list or a dict, which may contain values."""
    return isinstance(part, (list, dict))


def is_form(part):
    """Return True if a value may be of this form, whatever the values within it are."""
    if part is None or isinstance(part, (bool, list)):
        return True
    if isinstance(part, int):
        return abs(part) < 10 ** 40
    if isinstance(part, dict):
        return all([isinstance(key, str) and is_text(key) for key in part])
    return isinstance(part, str) and is_text(part)


def inner_values(part):
    """Return the list of the values that stand in a list or map directly; it is empty for other values."""
    if isinstance(part, dict):
        return list(part.values())
    return list(part) if isinstance(part, list) else []


def parts_of(value):
    """Return the number of the parts of a value."""
    return 1 + sum([parts_of(part) for part in inner_values(value)])


def same(one, two):
    """Return True if two values are the same, otherwise False."""
    if isinstance(one, list) and isinstance(two, list):
        return len(one) == len(two) and all([same(first, second) for first, second in zip(one, two)])
    if isinstance(one, dict) and isinstance(two, dict):
        return sorted(one) == sorted(two) and all([same(one[key], two[key]) for key in one])
    # For Python, True is equal to 1.
    return isinstance(one, bool) == isinstance(two, bool) and one == two


def copied(value):
    """Return the value, where each list and each map is a new one."""
    if isinstance(value, list):
        return [copied(part) for part in value]
    if isinstance(value, dict):
        return {key: copied(value[key]) for key in value}
    return value
