"""Standing questions: what changed in their answers since they were told last."""

from logdelve.asking import answer_told
from logdelve.errors import NoName
from logdelve.holdings import STANDS
from logdelve.values import likeness


def changed(elder, newer):
    """Tell the rows that went from the elder list of dicts and those that came in the newer one."""
    return more_in(elder, newer), more_in(newer, elder)


def more_in(rows, others):
    """Tell, in order, the rows that have no like one left among the others."""
    left = {}
    for row in others:
        key = row_likeness(row)
        left[key] = left.get(key, 0) + 1
    told = []
    for row in rows:
        key = row_likeness(row)
        if left.get(key, 0) > 0:
            left[key] -= 1
        else:
            told.append(dict(row))
    return told


def row_likeness(row):
    """Tell a key that is the same for like rows alone."""
    return tuple([(name, likeness(row[name])) for name in sorted(row)])


def begin_standing(held):
    """Let each question that came to stand begin with its answer, and forget those that stand no more."""
    questions = held.tables[STANDS]
    told_last = {}
    for name in questions:
        if name in held.told_last:
            told_last[name] = held.told_last[name]
        else:
            told_last[name] = answer_told(held, questions[name], None, None)
    held.told_last = told_last


def changes_told(held, name):
    """Tell what changed in a standing question's answer since it was told last."""
    if name not in held.tables[STANDS]:
        raise NoName()
    elder = held.told_last[name]
    newer = answer_told(held, held.tables[STANDS][name], None, None)
    held.told_last[name] = newer
    return changed(elder, newer)
