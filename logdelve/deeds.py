"""Deeds on sources, fields, holds, indexes and pieces; deeds taken back and done again."""

from logdelve.checks import flat_sorts
from logdelve.errors import BadField, BadName, NoHold, NoIndex, NoSource, Taken
from logdelve.holdings import HOLDS, INDEXES, KINDS, SOURCES
from logdelve.pieces import led_together
from logdelve.standing import begin_standing
from logdelve.values import SORTS, is_name


def refuse_name(name, taken):
    """Refuse what is no name, or one of those taken."""
    if not is_name(name):
        raise BadName()
    if name in taken:
        raise Taken(name)


def tell_source(held, name):
    """Tell the store of a source."""
    refuse_name(name, held.tables[SOURCES])
    held.carry_out("source", [held.change(SOURCES, name, True)])


def tell_field(held, name, sort):
    """Tell the store of a field and its sort."""
    refuse_name(name, flat_sorts(held.tables[KINDS]))
    if sort not in SORTS:
        raise BadName()
    held.carry_out("field", [held.change(KINDS, name, sort)])


def hold_source(held, name, source):
    """Hold a source's rows, so that no floor lets them go."""
    refuse_name(name, held.tables[HOLDS])
    if source not in held.tables[SOURCES]:
        raise NoSource()
    held.carry_out("hold", [held.change(HOLDS, name, source)])


def release_hold(held, name):
    """End a hold."""
    if name not in held.tables[HOLDS]:
        raise NoHold()
    held.carry_out("release", [held.change(HOLDS, name, None)])


def begin_index(held, field):
    """Begin an index of a field."""
    if field in held.tables[INDEXES]:
        raise Taken(field)
    if field not in flat_sorts(held.tables[KINDS]):
        raise BadField(field)
    held.carry_out("add_index", [held.change(INDEXES, field, True)])


def end_index(held, field):
    """End the index of a field."""
    if field not in held.tables[INDEXES]:
        raise NoIndex()
    held.carry_out("drop_index", [held.change(INDEXES, field, None)])


def tidy_pieces(held):
    """Lead pieces together."""
    held.enter("tidy", [], led_together(held.parted, held.size))


def take_back(held):
    """Take back the last deed and tell its word."""
    word = held.take_back()
    begin_standing(held)
    return word


def do_again(held):
    """Do again the deed that was taken back last and tell its word."""
    word = held.do_again()
    begin_standing(held)
    return word
