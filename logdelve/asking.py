"""Questions asked of what a store holds: checked, answered, and planned piece by piece."""

from logdelve.answers import answer_of, fields_of, reasons_of
from logdelve.holdings import KINDS, SAVES, SOURCES
from logdelve.leaning import chain_of
from logdelve.papers import barred_by, papers_of
from logdelve.questions import read_question


def checked_question(held, text):
    """Tell the question that a text writes, if it can be asked; else BadText, NoName or BadStage."""
    question = read_question(text)
    fields_told(held, question, held.tables[SAVES])
    return question


def fields_told(held, question, kept):
    """Tell the fields and sorts of a question's answer by kept questions; NoName or BadStage where there is none."""
    return fields_of(question, sources=held.tables[SOURCES], kinds=held.tables[KINDS], kept=kept)


def plan_told(held, question, since, until):
    """Tell for each piece the paper by which it is left, or None where it is opened."""
    papers = papers_of(chain_of(question, held.tables[SAVES]), since, until)
    return [barred_by(piece.extents, papers) for piece in held.parted]


def opened_rows(held, question, since, until):
    """Tell the rows of the pieces that are opened for a question."""
    plan = plan_told(held, question, since, until)
    return [row for piece, paper in zip(held.parted, plan) if paper is None for row in piece.stored]


def answer_told(held, question, since, until):
    """Tell the answer to a question."""
    return answer_of(
        question, opened_rows(held, question, since, until), sources=held.tables[SOURCES],
        kinds=held.tables[KINDS], kept=held.tables[SAVES], since=since, until=until,
    )


def reasons_told(held, question, at, since, until):
    """Tell the reasons of the row at a place of the answer."""
    return reasons_of(
        question, at, opened_rows(held, question, since, until), sources=held.tables[SOURCES],
        kinds=held.tables[KINDS], kept=held.tables[SAVES], since=since, until=until,
    )
