"""Questions: tuples of stages, written and read."""

from logdelve.errors import BadText
from logdelve.signs import END, MARK, NAME, Reader
from logdelve.terms import take_term, term_text
from logdelve.values import NUMBER, value_text

MOST_STAGES = 12
# Ahead of the name of a kept question.
KEPT = "@"
HOWS_WITH_FIELD = ("sum", "least", "most", "unlike")


def read_question(text):
    """Tell the question that text writes."""
    reader = Reader(text)
    stages = [take_from(reader.take_one(NAME, ("from",)), reader)]
    while reader.sees_one(MARK, ("|",)):
        if len(stages) == MOST_STAGES:
            raise BadText(reader.place())
        reader.take()
        stages.append(take_stage(reader))
    reader.take_kind(END)
    return tuple(stages)


def take_stage(reader):
    """Take a stage that is not the first one."""
    word = reader.take_one(NAME, list(TAKERS))
    action = TAKERS[word]
    return action(word, reader)


def take_from(word, reader):
    """Take what stands behind from."""
    if reader.sees_one(MARK, ("all",)):
        reader.take()
        return (word, ())
    if reader.sees_one(MARK, (KEPT,)):
        return (word, (reader.take(), reader.take_kind(NAME)))
    return (word, take_names(reader))


def take_where(word, reader):
    """Take what stands behind where."""
    return (word, take_term(reader, 0))


def take_with(word, reader):
    """Take what stands behind with."""
    name = reader.take_kind(NAME)
    reader.take_one(MARK, ("=",))
    return (word, name, take_term(reader, 0))


def take_list(word, reader):
    """Take what stands behind keep or drop."""
    return (word, take_names(reader))


def take_sort(word, reader):
    """Take what stands behind sort."""
    name = reader.take_kind(NAME)
    return (word, name, reader.take_one(MARK, ("up", "down")) == "down")


def take_first(word, reader):
    """Take what stands behind first."""
    return (word, take_number(reader, 0))


def take_every(word, reader):
    """Take what stands behind every."""
    return (word, take_number(reader, 1))


def take_sessions(word, reader):
    """Take what stands behind sessions."""
    gap = take_number(reader, 0)
    return (word, gap, take_by(reader))


def take_join(word, reader):
    """Take what stands behind join."""
    source = reader.take_kind(NAME)
    reader.take_one(MARK, ("by",))
    name = reader.take_kind(NAME)
    reader.take_one(MARK, ("within",))
    return (word, source, name, take_number(reader, 0))


def take_fold(word, reader):
    """Take what stands behind fold."""
    things = [take_thing(reader)]
    while reader.sees_one(MARK, (",",)):
        reader.take()
        things.append(take_thing(reader))
    return (word, tuple(things), take_by(reader))


def take_thing(reader):
    """Take one of the things that a fold tells."""
    name = reader.take_kind(NAME)
    reader.take_one(MARK, ("=",))
    how = reader.take_one(MARK, ("count", *HOWS_WITH_FIELD))
    field = reader.take_kind(NAME) if how in HOWS_WITH_FIELD else None
    return (name, how, field)


def take_by(reader):
    """Take by and the names behind it; without a by there are none."""
    if not reader.sees_one(MARK, ("by",)):
        return ()
    reader.take()
    return take_names(reader)


def take_names(reader):
    """Take one name at least and all that stand behind it."""
    names = [reader.take_kind(NAME)]
    while reader.sees(NAME):
        names.append(reader.take())
    return tuple(names)


def take_number(reader, least):
    """Take a number that is not below the least one."""
    place = reader.place()
    number = reader.take_kind(NUMBER)
    if number < least:
        raise BadText(place)
    return number


# From is not among them, as it is never a later stage.
TAKERS = {
    "where": take_where, "with": take_with, "keep": take_list, "drop": take_list, "sort": take_sort,
    "first": take_first, "every": take_every, "sessions": take_sessions, "join": take_join, "fold": take_fold,
}


def question_text(question):
    """Write a question."""
    return " | ".join([stage_text(stage) for stage in question])


def stage_text(stage):
    """Write a stage."""
    word, *things = stage
    action = WRITERS[word]
    text = action(*things)
    return f"{word} {text}"


def from_text(names):
    """Write what stands behind from."""
    if not names:
        return "all"
    # The name of a kept question follows its mark without a blank.
    return "".join(names) if names[0] == KEPT else names_text(names)


def with_text(name, term):
    """Write what stands behind with."""
    return f"{name} = {term_text(term)}"


def names_text(names):
    """Write names."""
    return " ".join(names)


def sort_text(name, down):
    """Write what stands behind sort."""
    way = "down" if down else "up"
    return f"{name} {way}"


def sessions_text(gap, names):
    """Write what stands behind sessions."""
    return value_text(gap) + by_text(names)


def join_text(source, name, within):
    """Write what stands behind join."""
    return f"{source} by {name} within {value_text(within)}"


def fold_text(things, names):
    """Write what stands behind fold."""
    return ", ".join([thing_text(thing) for thing in things]) + by_text(names)


def thing_text(thing):
    """Write one of the things that a fold tells."""
    name, how, field = thing
    return f"{name} = {how}" if field is None else f"{name} = {how} {field}"


def by_text(names):
    """Write the names behind by, with a blank ahead; nothing where there are none."""
    return f" by {names_text(names)}" if names else ""


WRITERS = {
    "from": from_text, "where": term_text, "with": with_text, "keep": names_text, "drop": names_text,
    "sort": sort_text, "first": value_text, "every": value_text, "sessions": sessions_text, "join": join_text,
    "fold": fold_text,
}
