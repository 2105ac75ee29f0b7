"""Records of a shape, their notes, and the data of paths."""

from samepage.data.notation import notation, read_notation
from samepage.data.values import copied, is_value
from samepage.errors import Misfit, UnknownName
from samepage.pages.characters import is_text

LONGEST_TEXT = 200
MOST_RECORDS = 100
DEEPEST_NOTE = 40


def misfit(record, shape):
    """Return the path of the first misfit of a dict, a list, or None if it is a record of the shape."""
    for name, kind in shape:
        path = field_misfit(record, name, kind)
        if path is not None:
            return path
    names = [name for name, _ in shape]
    others = [key for key in record if key not in names]
    return [min(others)] if others else None


def field_misfit(record, name, kind):
    """Return the path of the first misfit of a field, or None if the field fits."""
    if name not in record:
        return [name]
    if isinstance(kind, list):
        return list_misfit(record[name], name, kind)
    return None if is_of_kind(record[name], kind) else [name]


def list_misfit(value, name, shape):
    """Return the path of the first misfit of a list of records, or None if it is one."""
    if not isinstance(value, list) or len(value) > MOST_RECORDS:
        return [name]
    for at, element in enumerate(value):
        if not isinstance(element, dict):
            return [name, at]
        path = misfit(element, shape)
        if path is not None:
            return [name, at] + path
    return None


def is_of_kind(value, kind):
    """Return True if the value of a field is of the kind, which is no shape."""
    if kind == "text":
        return isinstance(value, str) and len(value) <= LONGEST_TEXT and is_text(value)
    if kind == "truth":
        return isinstance(value, bool)
    return is_value(value)


def note(record, shape):
    """Return the note of a record."""
    # A record has exactly the fields of its shape, at each depth, so the shape leaves nothing out.
    return notation(record)


def read_note(text, shape):
    """Return the record of a note."""
    record = read_notation(text, DEEPEST_NOTE)
    if not isinstance(record, dict) or misfit(record, shape) is not None:
        raise Misfit(0)
    return record


def datum(records, path):
    """Return the datum of a path in the records of the scopes, a dict from variables to records."""
    variable, name = path
    if variable not in records or name not in records[variable]:
        raise UnknownName(0)
    # A list or map is copied, so that changing it does not change the record.
    return copied(records[variable][name])
