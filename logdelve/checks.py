"""Questions checked, stage by stage, by the sorts of the fields that are there."""

from logdelve.errors import BadStage, BadTerm
from logdelve.questions import KEPT
from logdelve.stages import THAT
from logdelve.values import FLAG, NUMBER, WORD
from logdelve.worths import sort_of_term


def flat_sorts(kinds):
    """Tell the fields of flat rows and their sorts, by those that were told to the store."""
    return {**kinds, "time": NUMBER, "source": WORD, "number": NUMBER}


def sorts_behind(question, sources, kinds, leant):
    """Tell the fields and sorts of a question's answer; leant are those of the kept question on which it leans."""
    sorts = from_sorts(question[0][1], sources, kinds, leant)
    if sorts is None:
        raise BadStage(0)
    for at, stage in enumerate(question[1:], start=1):
        sorts = stage_sorts(stage, sorts, sources, kinds)
        if sorts is None:
            raise BadStage(at)
    return sorts


# Each of the following tells the fields and sorts behind a stage, or None where the stage is wrong.


def from_sorts(names, sources, kinds, leant):
    """Check from."""
    if names and names[0] == KEPT:
        return dict(leant)
    return flat_sorts(kinds) if are_there(names, sources) else None


def stage_sorts(stage, sorts, sources, kinds):
    """Check a stage behind from."""
    if stage[0] == "join":
        return join_sorts(stage, sorts, sources, kinds)
    word, *things = stage
    action = CHECKS[word]
    return action(sorts, *things)


def where_sorts(sorts, term):
    """Check where."""
    return sorts if term_sort(term, sorts) == FLAG else None


def with_sorts(sorts, name, term):
    """Check with."""
    sort = term_sort(term, sorts)
    return None if sort is None else {**sorts, name: sort}


def keep_sorts(sorts, names):
    """Check keep."""
    return {name: sorts[name] for name in names} if are_there(names, sorts) else None


def drop_sorts(sorts, names):
    """Check drop."""
    return {name: sorts[name] for name in sorts if name not in names} if are_there(names, sorts) else None


def sort_sorts(sorts, name, down):
    """Check sort."""
    return sorts if name in sorts else None


def first_sorts(sorts, many):
    """Check first, in which nothing can be wrong."""
    return sorts


def every_sorts(sorts, width):
    """Check every."""
    return {**sorts, "span": NUMBER} if has_time(sorts) else None


def sessions_sorts(sorts, gap, names):
    """Check sessions."""
    return {**sorts, "session": NUMBER} if has_time(sorts) and are_there(names, sorts) else None


def join_sorts(stage, sorts, sources, kinds):
    """Check join."""
    word, source, name, within = stage
    others = flat_sorts(kinds)
    if source not in sources or not has_time(sorts):
        return None
    if name not in sorts or name not in others or sorts[name] != others[name]:
        return None
    told = {own: sorts[own] for own in sorts if not own.startswith(THAT)}
    for other in others:
        told[THAT + other] = others[other]
    told["apart"] = NUMBER
    return told


def fold_sorts(sorts, things, names):
    """Check fold."""
    if not are_there(names, sorts):
        return None
    told = {name: sorts[name] for name in names}
    for name, how, field in things:
        if name in told or not can_fold(sorts, how, field):
            return None
        told[name] = NUMBER
    return told


def can_fold(sorts, how, field):
    """Tell whether a field can be folded so."""
    if how == "count":
        return True
    return field in sorts and (how == "unlike" or sorts[field] == NUMBER)


def term_sort(term, sorts):
    """Tell the sort of a term, or None where it has none."""
    try:
        return sort_of_term(term, sorts)
    except BadTerm:
        return None


def has_time(sorts):
    """Tell whether there is a time that is a number."""
    return sorts.get("time") == NUMBER


def are_there(names, known):
    """Tell whether all names are known and none is told twice."""
    return all([name in known for name in names]) and len(set(names)) == len(names)


CHECKS = {
    "where": where_sorts, "with": with_sorts, "keep": keep_sorts, "drop": drop_sorts, "sort": sort_sorts,
    "first": first_sorts, "every": every_sorts, "sessions": sessions_sorts, "fold": fold_sorts,
}
