"""Stores written as lines, and read from them."""

from logdelve.errors import BadSize, BadText, LogError, NotThere
from logdelve.holdings import ROWS, SAVES, STRUCK
from logdelve.leaning import chain_of
from logdelve.questions import question_text, read_question
from logdelve.row_deeds import NEW
from logdelve.rows import read_row, row_text
from logdelve.store import Store
from logdelve.values import number_in


def store_lines(store):
    """Write a store."""
    kinds = store.kinds()
    floors = store.floors()
    kept = store.held.tables[SAVES]
    return [
        f"size {store.held.size}",
        *[f"source {name}" for name in store.sources()],
        *[f"field {name} {kinds[name]}" for name in sorted(kinds)],
        *[f"floor {source} {floors[source]}" for source in sorted(floors)],
        *[f"row {row_text(row)}" for row in store.rows()],
        *[f"struck {source} {number}" for source, number in store.struck()],
        *[f"index {field}" for field in store.indexes()],
        *[f"save {name} {question_text(kept[name])}" for many, name in save_places(kept)],
        *[f"hold {name} {source}" for name, source in store.holds()],
        *[f"stand {name} {text}" for name, text in store.stands()],
    ]


def save_places(kept):
    """Tell the places of kept questions among one another, rising."""
    return sorted([save_place(name, kept) for name in kept])


def save_place(name, kept):
    """Tell by what a kept question stands in order: how many others it leans on, then its name."""
    return len(chain_of(kept[name], kept)) - 1, name


def read_store(lines):
    """Tell the store that lines write; the place in BadText counts lines."""
    store = sized_store(lines)
    ahead = ()
    for at, line in enumerate(lines[1:], start=1):
        place = read_line(store, line)
        if place is None or place <= ahead:
            raise BadText(at)
        ahead = place
    store.held.forget_deeds()
    return store


def sized_store(lines):
    """Tell an empty store of the size that the first line tells."""
    word, blank, written = lines[0].partition(" ") if lines else ("", "", "")
    size = number_in(written)
    if word != "size" or size is None:
        raise BadText(0)
    try:
        return Store(size=size)
    except BadSize:
        raise BadText(0) from None


def read_line(store, line):
    """Do what a line behind the first one writes and tell its place in the order of lines, None where it is wrong."""
    word, blank, written = line.partition(" ")
    if word not in READERS:
        return None
    action = READERS[word]
    try:
        place = action(store, written)
    except (LogError, NotThere):
        return None
    return None if place is None else (list(READERS).index(word), *place)


# Each of the following does what is written behind a line's word and tells the line's place among those of
# its kind, a tuple, or None where it is wrong. What is no name is refused by the deed.


def read_source(store, written):
    """Read a source."""
    store.source(written)
    return (written,)


def read_field(store, written):
    """Read a field."""
    name, blank, sort = written.partition(" ")
    store.field(name, sort=sort)
    return (name,)


def read_floor(store, written):
    """Read a floor."""
    source, blank, figures = written.partition(" ")
    time = number_in(figures)
    if time is None:
        return None
    store.floor(source, time)
    return (source,)


def read_stored(store, written):
    """Read a row."""
    row = read_row(written)
    return row[:3] if store.add(row) == NEW else None


def read_struck(store, written):
    """Read the source and number of a struck row."""
    source, blank, figures = written.partition(" ")
    number = number_in(figures)
    if source not in store.sources() or number is None or number < 0:
        return None
    place = (source, number)
    if place in store.held.tables[ROWS]:
        return None
    # No deed strikes a row that isn't there, so it is put where such a deed would have left it.
    store.held.put(STRUCK, place, True)
    return place


def read_index(store, written):
    """Read an index."""
    store.add_index(written)
    return (written,)


def read_save(store, written):
    """Read a kept question."""
    name, blank, text = written.partition(" ")
    if not is_question_text(text):
        return None
    store.save(name, text)
    return save_place(name, store.held.tables[SAVES])


def read_hold(store, written):
    """Read a hold."""
    name, blank, source = written.partition(" ")
    store.hold(name, source)
    return (name,)


def read_stand(store, written):
    """Read a standing question."""
    name, blank, text = written.partition(" ")
    if not is_question_text(text):
        return None
    store.stand(name, text)
    return (name,)


def is_question_text(text):
    """Tell whether a question is written just so; BadText where it is none."""
    return question_text(read_question(text)) == text


# In the order in which their lines stand.
READERS = {
    "source": read_source, "field": read_field, "floor": read_floor, "row": read_stored, "struck": read_struck,
    "index": read_index, "save": read_save, "hold": read_hold, "stand": read_stand,
}
