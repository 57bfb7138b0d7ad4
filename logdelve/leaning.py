"""Questions that lean on kept ones, which may lean on others in turn, but never on themselves."""

from logdelve.errors import NoName
from logdelve.questions import KEPT


def leans_on(question):
    """Tell the name of the kept question on which a question leans straight, or None."""
    names = question[0][1]
    return names[1] if names and names[0] == KEPT else None


def chain_of(question, kept):
    """Tell the questions that lean on one another, from the one on which all lean to the one asked."""
    chain = [question]
    name = leans_on(question)
    while name is not None:
        if name not in kept:
            raise NoName()
        chain.append(kept[name])
        name = leans_on(kept[name])
    return chain[::-1]


def ring_of(name, question, kept):
    """Tell the names by which a question, kept under a name, would lean on itself; none where it would not.

    The name comes first, then those from it on, each leaning on the next, to the one that leans on it.
    """
    names = [name]
    ahead = leans_on(question)
    while ahead is not None and ahead != name:
        names.append(ahead)
        ahead = leans_on(kept[ahead])
    return tuple(names) if ahead == name else ()


def first_leaning(name, questions):
    """Tell the first name of a question that leans straight on the kept one of this name, or None."""
    for other in sorted(questions):
        if leans_on(questions[other]) == name:
            return other
    return None
