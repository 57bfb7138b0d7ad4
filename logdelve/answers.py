"""Answers to questions, their fields and their reasons, by stored rows and kept questions."""

from logdelve.checks import sorts_behind
from logdelve.errors import BadStage, NoRow
from logdelve.leaning import chain_of, leans_on
from logdelve.places import order_of
from logdelve.stages import source_rows, stage_rows


def answer_of(question, rows, *, sources, kinds, kept, since=None, until=None):
    """Tell the answer to a question by rows in any order: a list of dicts.

    Sources are the names of all sources, kinds the sorts of the fields that were told, kept the kept
    questions by their names. All rows read have times of since or later and below until.
    """
    fields_of(question, sources=sources, kinds=kinds, kept=kept)
    stored = rows_between(rows, since, until)
    return [fields for fields, reasons in answer_rows(question, stored, kept)]


def reasons_of(question, at, rows, *, sources, kinds, kept, since=None, until=None):
    """Tell the reasons of the row at a place of the answer: pairs of source and number, rising."""
    fields_of(question, sources=sources, kinds=kinds, kept=kept)
    stored = rows_between(rows, since, until)
    pairs = answer_rows(question, stored, kept)
    if not 0 <= at < len(pairs):
        raise NoRow()
    return pairs[at][1]


def fields_of(question, *, sources, kinds, kept):
    """Check a question and tell the fields of its answer with their sorts."""
    *others, last = chain_of(question, kept)
    sorts = {}
    for other in others:
        try:
            sorts = sorts_behind(other, sources, kinds, sorts)
        except BadStage:
            # What is wrong in a kept question is wrong where the one asked leans on it.
            raise BadStage(0) from None
    return sorts_behind(last, sources, kinds, sorts)


def rows_between(rows, since, until):
    """Tell the rows of since or later and below until, in order; None is no bound."""
    told = [row for row in rows if (since is None or row[0] >= since) and (until is None or row[0] < until)]
    # The fields have no order of their own, and need none: no two rows share source and number.
    return sorted(told, key=order_of)


def answer_rows(question, stored, kept):
    """Tell the rows of an answer with their reasons, by the rows that may be read, in order."""
    pairs = []
    for one in chain_of(question, kept):
        if leans_on(one) is None:
            pairs = source_rows(one[0][1], stored)
        for stage in one[1:]:
            pairs = stage_rows(stage, pairs, stored)
    return pairs
