"""Papers by which pieces are left unopened when a question is answered."""

from logdelve.terms import is_plain_comparison
from logdelve.values import NUMBER
from logdelve.worths import joined_worth

SOURCES = "sources"


def papers_of(chain, since, until):
    """Tell the papers that may bar pieces, in order.

    The chain has the question asked last and ahead of each question the one on which it leans. None is no bound.
    """
    times = time_papers(since, until)
    # A row that no stage lets by may still stand beside another one in a join.
    if any([stage[0] == "join" for question in chain for stage in question]):
        return times
    first, *behind = chain[0]
    return [*source_papers(first[1]), *times, *where_papers(behind)]


def source_papers(names):
    """Tell the paper of the sources told by from, none where it asks for all."""
    return [(SOURCES, names)] if names else []


def time_papers(since, until):
    """Tell the papers of the bounds."""
    papers = []
    if since is not None:
        papers.append((">=", ("field", "time"), (NUMBER, since)))
    if until is not None:
        papers.append(("<", ("field", "time"), (NUMBER, until)))
    return papers


def where_papers(stages):
    """Tell the papers of the where stages that stand ahead of all others."""
    papers = []
    for stage in stages:
        if stage[0] != "where":
            return papers
        papers.extend([part for part in and_parts(stage[1]) if is_paper(part)])
    return papers


def and_parts(term):
    """Tell the parts of a term that are joined to one another by and alone, from left to right."""
    waiting = [term]
    parts = []
    while waiting:
        part = waiting.pop()
        if part[0] == "and":
            waiting.extend([part[2], part[1]])
        else:
            parts.append(part)
    return parts


def is_paper(part):
    """Tell whether a term can be held against a summary."""
    return part[0] in ("field", "has") or is_plain_comparison(part)


def barred_by(extents, papers):
    """Tell the first paper that bars a piece of this summary, or None where it is opened."""
    for paper in papers:
        if bars(extents, paper):
            return paper
    return None


def bars(extents, paper):
    """Tell whether by the summary no row of a piece can have yes."""
    if paper[0] == SOURCES:
        return not any([name in extents["source"][1:] for name in paper[1]])
    if paper[0] == "has":
        return paper[1] not in extents
    if paper[0] == "field":
        return paper[1] not in extents or True not in extents[paper[1]][1:]
    name = paper[1][1]
    return name not in extents or not can_stand(paper[0], extents[name], paper[2][1])


def can_stand(sign, extent, value):
    """Tell whether a value that a field may have by its extent stands so to the written one."""
    sort, *ends = extent
    if sort == NUMBER and sign == "=":
        return ends[0] <= value <= ends[1]
    # By all other signs a number between two others stands so only where one of those does.
    return any([joined_worth(sign, end, value) for end in ends])
