"""Deeds on questions that are kept and on those that stand."""

from logdelve.asking import checked_question, fields_told
from logdelve.deeds import refuse_name
from logdelve.errors import BadStage, Breaks, InUse, NoName, Ring
from logdelve.holdings import SAVES, STANDS
from logdelve.leaning import first_leaning, leans_on, ring_of
from logdelve.questions import read_question
from logdelve.standing import begin_standing


def save_question(held, name, text, anew):
    """Keep a question under a name; anew also in the place of the one that is kept there."""
    kept = held.tables[SAVES]
    if not (anew and name in kept):
        refuse_name(name, kept)
    question = read_question(text)
    refuse_leaning(name, question, kept)
    fields_told(held, question, kept)
    refuse_breaks(held, {**kept, name: question})
    held.carry_out("save", [held.change(SAVES, name, question)])


def refuse_leaning(name, question, kept):
    """Refuse a question that would lean on a name that is not kept, or on its own."""
    leant = leans_on(question)
    if leant is not None and leant not in kept:
        raise NoName()
    ring = ring_of(name, question, kept)
    if ring:
        raise Ring(ring)


def refuse_breaks(held, kept):
    """Refuse kept questions by which one of them, or one that stands, can't be checked any more."""
    for questions in (kept, held.tables[STANDS]):
        for name in sorted(questions):
            try:
                fields_told(held, questions[name], kept)
            except BadStage:
                raise Breaks(name) from None


def unsave_question(held, name):
    """Keep a question no more."""
    if name not in held.tables[SAVES]:
        raise NoName()
    for questions in (held.tables[SAVES], held.tables[STANDS]):
        user = first_leaning(name, questions)
        if user is not None:
            raise InUse(user)
    held.carry_out("unsave", [held.change(SAVES, name, None)])


def stand_question(held, name, text):
    """Let a question stand under a name, from its answer on."""
    refuse_name(name, held.tables[STANDS])
    question = checked_question(held, text)
    held.carry_out("stand", [held.change(STANDS, name, question)])
    begin_standing(held)


def unstand_question(held, name):
    """Let a question stand no more."""
    if name not in held.tables[STANDS]:
        raise NoName()
    held.carry_out("unstand", [held.change(STANDS, name, None)])
    begin_standing(held)
