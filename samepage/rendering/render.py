"""Rendering: the page of a source and a record, and why a source has none."""

from samepage.codings.coding import coded, coding
from samepage.codings.verdict import certificate, hole_kinds, is_accepted, refusal
from samepage.data.records import misfit
from samepage.errors import Misfit
from samepage.marks.marked import mark_step
from samepage.pages.machine import START, step
from samepage.rendering.expansion import expand
from samepage.templates.laying import holes_of, lay_out
from samepage.templates.source import parse_template


def render(source, record):
    """Return the page of a source with a record."""
    template = parse_template(source)
    nodes = lay_out(template)
    # A template without a certificate is refused, whatever the record is.
    certificate(nodes)
    if misfit(record, template[0]) is not None:
        raise Misfit(0)
    return page_of(nodes, record)


def page_of(nodes, record):
    """Return the page of an accepted template with a record of its shape."""
    row, texts, origins = expand(nodes, record)
    kinds = hole_kinds(nodes)
    state = START
    parts = []
    for item in row:
        if isinstance(item, int):
            parts.append(coded(coding(kinds[origins[item]], state), texts[item]))
            state, _ = mark_step(state, item)
        else:
            parts.append(item)
            state, _ = step(state, item)
    return "".join(parts)


def check(source):
    """Return True if a source is accepted, otherwise False."""
    return is_accepted(lay_out(parse_template(source)))


def reason(source):
    """Return the hole, the index in the source and the record of the refusal, or None if the source is accepted."""
    template = parse_template(source)
    nodes = lay_out(template)
    found = refusal(template[0], nodes)
    if found is None:
        return None
    hole, _, record = found
    return hole, holes_of(nodes)[hole][2], record
