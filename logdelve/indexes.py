"""Indexes: for one field, each of its values leads to the rows that have it, told by their order."""

from logdelve.places import order_of, place_of
from logdelve.rows import flat
from logdelve.values import likeness


def index_of(field, rows):
    """Tell a new index of a field for all these rows."""
    index = {}
    for row in rows:
        lead_in(index, field, row)
    return index


def lead_in(index, field, row):
    """Let the index lead to a row, if it has a value in the field."""
    value = flat(row).get(field)
    if value is not None:
        found = index.setdefault(likeness(value), [])
        found.insert(place_among(found, row), order_of(row))


def lead_out(index, field, row):
    """Let the index lead to a row no more."""
    value = flat(row).get(field)
    if value is not None:
        found = index[likeness(value)]
        del found[place_among(found, row)]
        if not found:
            del index[likeness(value)]


def place_among(found, row):
    """Tell the place at which a row stands, or would stand, among those found."""
    return place_of(order_of(row), len(found), lambda place: found[place])


def found_in(index, value):
    """Tell the sources and numbers of the rows that have the value, in the rows' order."""
    return [(source, number) for time, source, number in index.get(likeness(value), [])]


def twin_index(index):
    """Tell an index of its own with all that this one has."""
    return {value: list(index[value]) for value in index}
