"""Rows kept in pieces, one behind the other in order, and what each piece holds.

Neither a piece nor a list of pieces is ever changed: what changes is told as a new list, so that an elder
one can be kept and brought back.
"""

from logdelve.places import order_of, place_of
from logdelve.rows import flat
from logdelve.values import FLAG, NUMBER, WORD

LEAST_SIZE = 1
MOST_SIZE = 50


class Piece:
    """Some rows in order, one at least, and their summary."""

    def __init__(self, stored):
        self.stored = stored
        self.extents = extents_of(stored)


def extents_of(stored):
    """Tell the summary of rows: for each field of the flat rows its sort and what values it has."""
    values = {}
    for row in stored:
        fields = flat(row)
        for name in fields:
            values.setdefault(name, []).append(fields[name])
    return {name: extent_of(values[name]) for name in values}


def extent_of(values):
    """Tell the sort of values with the least and the greatest one, or with all unlike ones, rising."""
    # Flags are numbers for Python, so they are asked for first; a source may be no word, but it is told as one.
    if isinstance(values[0], bool):
        return (FLAG, *sorted(set(values)))
    if isinstance(values[0], int):
        return (NUMBER, min(values), max(values))
    return (WORD, *sorted(set(values)))


def stored_rows(pieces):
    """Tell all rows of pieces, in order."""
    return [row for piece in pieces for row in piece.stored]


def pieces_behind(pieces, exchanges, size):
    """Tell the pieces behind exchanges, pairs of an elder row and a newer one; None where there is none."""
    for elder, newer in exchanges:
        if elder is None:
            pieces = with_row(pieces, newer, size)
        elif newer is None:
            pieces = without_row(pieces, elder)
        else:
            pieces = exchanged_row(pieces, newer)
    return pieces


def with_row(pieces, row, size):
    """Tell the pieces with one more row in its place."""
    if not pieces:
        return [Piece([row])]
    at = piece_place(pieces, row)
    stored = pieces[at].stored
    place = row_place(stored, row)
    return [*pieces[:at], *parted([*stored[:place], row, *stored[place:]], place, size), *pieces[at + 1:]]


def without_row(pieces, row):
    """Tell the pieces without one of their rows; a piece goes with its last row."""
    at = piece_place(pieces, row)
    stored = pieces[at].stored
    place = row_place(stored, row)
    left = [*stored[:place], *stored[place + 1:]]
    if not left:
        return [*pieces[:at], *pieces[at + 1:]]
    return [*pieces[:at], Piece(left), *pieces[at + 1:]]


def exchanged_row(pieces, row):
    """Tell the pieces with a row in the place of the one that has its time, source and number."""
    at = piece_place(pieces, row)
    stored = pieces[at].stored
    place = row_place(stored, row)
    return [*pieces[:at], Piece([*stored[:place], row, *stored[place + 1:]]), *pieces[at + 1:]]


def led_together(pieces, size):
    """Tell pieces of the same rows, no two neighbours of which have room in one piece."""
    groups = []
    for piece in pieces:
        if groups and len(groups[-1]) + len(piece.stored) <= size:
            groups[-1] = [*groups[-1], *piece.stored]
        else:
            groups.append(piece.stored)
    return [Piece(stored) for stored in groups]


def piece_place(pieces, row):
    """Tell the place of the piece in which a row stands or would stand."""
    key = order_of(row)
    # The first piece that ends with the row or behind it; behind all rows there is the last piece.
    at = place_of(key, len(pieces), lambda place: order_of(pieces[place].stored[-1]))
    return min(at, len(pieces) - 1)


def row_place(stored, row):
    """Tell the place among rows in order at which a row stands or would stand."""
    return place_of(order_of(row), len(stored), lambda place: order_of(stored[place]))


def parted(stored, place, size):
    """Tell one piece of the rows, or two where a row that came at a place made them too many."""
    if len(stored) <= size:
        return [Piece(stored)]
    # Rows that come in order leave full pieces behind; amid others there is to be room on both sides.
    cut = place if place == size else len(stored) // 2
    return [Piece(stored[:cut]), Piece(stored[cut:])]
