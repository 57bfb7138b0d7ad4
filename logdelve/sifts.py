"""Sifts, texts of terms that are flags: two of them held against one another."""

from logdelve.errors import BadTerm, TooHard
from logdelve.terms import COMPARISONS, fields_in, is_plain_comparison, parts_in, read_term
from logdelve.values import FLAG, NUMBER
from logdelve.worths import sort_of_term, worth_of

MOST_FIELDS = 3
MOST_COMPARISONS = 12


def alike_sifts(one, other, *, kinds):
    """Tell None where both sifts let the same dicts by, else a dict that one of them lets by alone."""
    terms = [read_term(one), read_term(other)]
    if any([sort_of_term(term, kinds) != FLAG for term in terms]):
        raise BadTerm()
    names = names_in(terms)
    comparisons = [part for term in terms for part in parts_in(term) if part[0] in COMPARISONS]
    if is_too_hard(names, comparisons):
        raise TooHard()
    for fields in telling_dicts(names, comparisons, kinds):
        if lets_by(terms[0], fields) != lets_by(terms[1], fields):
            return fields
    return None


def names_in(terms):
    """Tell the names of all fields in the terms, each once."""
    return list({name: True for term in terms for name in fields_in(term)})


def is_too_hard(names, comparisons):
    """Tell whether sifts of these fields and comparisons are not held against one another."""
    if len(names) > MOST_FIELDS or len(comparisons) > MOST_COMPARISONS:
        return True
    return not all([is_plain_comparison(part) for part in comparisons])


def lets_by(term, fields):
    """Tell whether a sift's term is yes by the fields; where it lacks it is not."""
    return worth_of(term, fields) is True


def telling_dicts(names, comparisons, kinds):
    """Tell dicts of the fields, of which one parts two sifts of these comparisons if any dict does."""
    told = [{}]
    for name in names:
        values = telling_values(name, comparisons, kinds[name])
        # Each field lacks in some of them, too.
        told = [*told, *[{**fields, name: value} for fields in told for value in values]]
    return told


def telling_values(name, comparisons, sort):
    """Tell values of a field, with one at least for each way in which the comparisons can turn out."""
    if sort == FLAG:
        return [False, True]
    written = sorted({part[2][1] for part in comparisons if part[1][1] == name})
    return telling_numbers(written) if sort == NUMBER else [*written, unwritten_word(written)]


def telling_numbers(written):
    """Tell numbers at, between, below and above the written ones, which are rising."""
    if not written:
        return [0]
    return [written[0] - 1, *sorted({number + step for number in written for step in (0, 1)})]


def unwritten_word(written):
    """Tell a word that is none of those written."""
    # One more than are written: one at least is left over.
    words = [f"a{at}" for at in range(len(written) + 1)]
    return [word for word in words if word not in written][0]
