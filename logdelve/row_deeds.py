"""Deeds on rows: they are added, amended, struck, and let go by floors."""

from logdelve.errors import (
    BadField, BadNumber, BadTime, Held, LogError, NoRow, NoSource, NotThere, Struck, Unlike,
)
from logdelve.holdings import FLOORS, HOLDS, KINDS, ROWS, SOURCES, STRUCK
from logdelve.pieces import stored_rows
from logdelve.rows import copied
from logdelve.values import sort_of

# What is told of rows that come.
NEW = "new"
AGAIN = "again"
PAST = "past"


def add_row(held, row):
    """Add a row and tell its word; only a new one makes a deed."""
    word = word_for(held, row, {})
    if word == NEW:
        keep_rows(held, "add", {row[1:3]: copied(row)})
    return word


def add_rows(held, rows, whole):
    """Add rows one behind the other, as one deed, and tell their words."""
    fresh = {}
    words = []
    try:
        for row in rows:
            word = word_for(held, row, fresh)
            words.append(word)
            if word == NEW:
                fresh[row[1:3]] = copied(row)
    except (LogError, NotThere):
        if not whole:
            keep_rows(held, "batch", fresh)
        raise
    keep_rows(held, "batch", fresh)
    return words


def keep_rows(held, word, fresh):
    """Keep new rows, which stand by their sources and numbers; without any there is no deed."""
    if fresh:
        held.carry_out(word, [held.change(ROWS, key, fresh[key]) for key in fresh])


def word_for(held, row, fresh):
    """Tell the word of a row that comes, or refuse it; fresh rows came ahead of it in the same deed."""
    time, source, number, fields = row
    if source not in held.tables[SOURCES]:
        raise NoSource()
    if number < 0:
        raise BadNumber()
    refuse_fields(held, fields)
    if is_past(held, source, time):
        return PAST
    key = (source, number)
    if key in held.tables[STRUCK]:
        raise Struck()
    kept = fresh.get(key, held.tables[ROWS].get(key))
    if kept is None:
        return NEW
    if kept != row:
        raise Unlike(copied(kept))
    return AGAIN


def refuse_fields(held, fields):
    """Refuse fields of which one was not told or has a value of another sort."""
    kinds = held.tables[KINDS]
    for name in sorted(fields):
        if name not in kinds or sort_of(fields[name]) != kinds[name]:
            raise BadField(name)


def is_past(held, source, time):
    """Tell whether a time is below the floor of its source."""
    floor = held.tables[FLOORS].get(source)
    return floor is not None and time < floor


def row_at(held, source, number):
    """Tell the row of a source and number."""
    row = held.tables[ROWS].get((source, number))
    if row is None:
        raise NoRow()
    return row


def amend_row(held, source, number, fields):
    """Let a row have just these fields and tell the elder ones."""
    time, source, number, elder = row_at(held, source, number)
    refuse_fields(held, fields)
    newer = (time, source, number, dict(fields))
    held.carry_out("amend", [held.change(ROWS, (source, number), newer)])
    return dict(elder)


def strike_row(held, source, number):
    """Strike a row for good and tell it."""
    row = row_at(held, source, number)
    key = (source, number)
    held.carry_out("strike", [held.change(ROWS, key, None), held.change(STRUCK, key, True)])
    return copied(row)


def raise_floor(held, source, time):
    """Let go all rows of a source ahead of a time and tell how many there were."""
    if source not in held.tables[SOURCES]:
        raise NoSource()
    holds = held.tables[HOLDS]
    for name in sorted(holds):
        if holds[name] == source:
            raise Held(name)
    if is_past(held, source, time):
        raise BadTime()
    going = [row[1:3] for row in stored_rows(held.parted) if row[1] == source and row[0] < time]
    changes = [held.change(FLOORS, source, time), *[held.change(ROWS, key, None) for key in going]]
    held.carry_out("floor", changes)
    return len(going)
