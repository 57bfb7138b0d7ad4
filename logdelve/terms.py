"""Terms: tuples that come to values by a dict of fields; how they are written and read."""

from logdelve.errors import BadText
from logdelve.signs import END, MARK, NAME, Reader
from logdelve.values import FLAG, NUMBER, SORTS, WORD, value_text

# Terms without parts of their own.
LEAVES = ("number", "word", "flag", "field", "has")
COMPARISONS = ("=", "!=", "<", "<=", ">", ">=")
# The signs that join terms, from the loosest to the tightest; leaves are tighter than all of them.
LEVELS = (("or",), ("and",), ("not",), COMPARISONS, ("+", "-"), ("*",))
NOT_LEVEL = 2
COMPARISON_LEVEL = 3
LEAF_LEVEL = 6
MOST_DEEP = 12


def read_term(text):
    """Tell the term that text writes."""
    reader = Reader(text)
    term = take_term(reader, 0)
    reader.take_kind(END)
    return term


def take_term(reader, depth):
    """Take a whole term that stands within so many brackets and nots."""
    return take_part(reader, 0, depth)


def take_part(reader, level, depth):
    """Take a term that is as tight as the level or tighter."""
    if level == NOT_LEVEL:
        return take_negation(reader, depth)
    if level == LEAF_LEVEL:
        return take_leaf(reader, depth)
    term = take_part(reader, level + 1, depth)
    while reader.sees_one(MARK, LEVELS[level]):
        sign = reader.take()
        term = (sign, term, take_part(reader, level + 1, depth))
        # A second comparison is left where it stands: nobody else takes it, so it is refused there.
        if level == COMPARISON_LEVEL:
            return term
    return term


def take_negation(reader, depth):
    """Take a term with any nots ahead of it."""
    if not reader.sees_one(MARK, ("not",)):
        return take_part(reader, NOT_LEVEL + 1, depth)
    take_deeper(reader, depth)
    return ("not", take_negation(reader, depth + 1))


def take_deeper(reader, depth):
    """Take a not or an opening bracket that stands within so many others."""
    if depth == MOST_DEEP:
        raise BadText(reader.place())
    reader.take()


def take_leaf(reader, depth):
    """Take a value, a field, a has or a term in brackets."""
    if reader.sees(NUMBER):
        return (NUMBER, reader.take())
    if reader.sees(WORD):
        return (WORD, reader.take())
    if reader.sees_one(MARK, ("yes", "no")):
        return (FLAG, reader.take() == "yes")
    if reader.sees_one(MARK, ("has",)):
        reader.take()
        return ("has", reader.take_kind(NAME))
    if reader.sees_one(MARK, ("(",)):
        take_deeper(reader, depth)
        term = take_term(reader, depth + 1)
        reader.take_one(MARK, (")",))
        return term
    return ("field", reader.take_kind(NAME))


def term_text(term):
    """Write a term."""
    return built_up(term, part_text)


def part_text(part, texts):
    """Write a term by the texts of its parts."""
    if part[0] in LEAVES:
        return leaf_text(part)
    level = level_of(part)
    if level == NOT_LEVEL:
        return f"not {bracketed(texts[0], level_of(part[1]) < level)}"
    left_level = level_of(part[1])
    left = bracketed(texts[0], left_level < level or left_level == level == COMPARISON_LEVEL)
    right = bracketed(texts[1], level_of(part[2]) <= level)
    return f"{left} {part[0]} {right}"


def leaf_text(leaf):
    """Write a term that has no parts."""
    kind, thing = leaf
    if kind == "field":
        return thing
    if kind == "has":
        return f"has {thing}"
    return value_text(thing)


def bracketed(text, needed):
    """Tell a text, in brackets where they are needed."""
    return f"({text})" if needed else text


def level_of(term):
    """Tell how tight a term's sign is."""
    for level, signs in enumerate(LEVELS):
        if term[0] in signs:
            return level
    return LEAF_LEVEL


def fields_in(term):
    """Tell the names of all fields in a term, each once, in the order of their first places."""
    names = {}
    for part in parts_in(term):
        if part[0] in ("field", "has"):
            names[part[1]] = True
    return list(names)


def is_plain_comparison(term):
    """Tell whether a term compares a field, on the left, with a written value."""
    return term[0] in COMPARISONS and term[1][0] == "field" and term[2][0] in SORTS


def built_up(term, told_of):
    """Tell what told_of makes of a term, handed each part of it and the list of what it made of that part's parts."""
    told = []
    for part in parts_in(term):
        many = 0 if part[0] in LEAVES else len(part) - 1
        ahead = len(told) - many
        made = told_of(part, told[ahead:])
        del told[ahead:]
        told.append(made)
    return told[0]


def parts_in(term):
    """Tell the term and all terms in it: left ones ahead of right ones, each behind its own parts."""
    # Left parts nest as deep as a sum is long, which is too deep for a function that calls itself.
    waiting = [term]
    parts = []
    while waiting:
        part = waiting.pop()
        parts.append(part)
        if part[0] not in LEAVES:
            waiting.extend(part[1:])
    return parts[::-1]
