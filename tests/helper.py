"""What several tests use: faults' places, kinds of values, questions asked, a plain model of the stages, filled stores.

The model reads the document word by word, without any regard to speed, so that it goes other ways than the program.
"""

import unittest

from logdelve.answers import answer_of, fields_of, reasons_of
from logdelve.errors import BadText
from logdelve.pages import store_lines
from logdelve.questions import read_question
from logdelve.store import Store
from logdelve.worths import worth_of

SOURCES = ["app", "db_two", "web"]
KINDS = {"took": "number", "user": "word", "done": "flag"}


def fault_at(read, text):
    """Tell the place of the BadText that reading a text raises, or None where it is read."""
    try:
        read(text)
    except BadText as caught:
        return caught.at
    return None


def kind_and_value(value):
    """Tell a value so that True and 1 differ, all the way down."""
    if isinstance(value, (list, tuple)):
        return type(value).__name__, [kind_and_value(one) for one in value]
    if isinstance(value, dict):
        return "dict", sorted((name, kind_and_value(one)) for name, one in value.items())
    return type(value).__name__, value


def read_kept(texts):
    """Tell kept questions by their texts."""
    return {name: read_question(text) for name, text in (texts or {}).items()}


def known(sources, kinds, kept):
    """Tell what a question is asked of, beside rows; None for what is usual."""
    return {
        "sources": SOURCES if sources is None else sources,
        "kinds": KINDS if kinds is None else kinds,
        "kept": read_kept(kept),
    }


def ask(text, rows, *, sources=None, kinds=None, kept=None, since=None, until=None):
    """Tell the answer to a question's text."""
    return answer_of(read_question(text), rows, **known(sources, kinds, kept), since=since, until=until)


def ask_reasons(text, at, rows, *, sources=None, kinds=None, kept=None, since=None, until=None):
    """Tell the reasons of a row of the answer to a question's text."""
    return reasons_of(read_question(text), at, rows, **known(sources, kinds, kept), since=since, until=until)


def ask_fields(text, *, sources=None, kinds=None, kept=None):
    """Tell the fields and sorts of the answer to a question's text."""
    return fields_of(read_question(text), **known(sources, kinds, kept))


def model_answer(question, rows, kept=None, since=None, until=None):
    """Tell the pairs of fields and reasons to which a question comes."""
    rows = sorted(rows, key=lambda row: (row[0], row[1], row[2]))
    rows = [row for row in rows if since is None or since <= row[0]]
    rows = [row for row in rows if until is None or row[0] < until]
    made = []
    for stage in question:
        if stage[0] == "from" and stage[1][:1] == ("@",):
            made = model_answer(kept[stage[1][1]], rows, kept)
        elif stage[0] == "from":
            made = [model_flat(row) for row in rows if stage[1] == () or row[1] in stage[1]]
        elif stage[0] == "join":
            made = model_join(made, stage, [model_flat(row) for row in rows if row[1] == stage[1]])
        else:
            made = MODELS[stage[0]](made, *stage[1:])
    return made


def model_flat(row):
    fields = dict(row[3])
    fields.update(time=row[0], source=row[1], number=row[2])
    return fields, {(row[1], row[2])}


def model_where(made, term):
    return [one for one in made if worth_of(term, one[0]) is True]


def model_with(made, name, term):
    return [(replaced(fields, name, worth_of(term, fields)), why) for fields, why in made]


def replaced(fields, name, value):
    fields = dict(fields)
    fields.pop(name, None)
    return fields if value is None else {**fields, name: value}


def model_keep(made, names):
    return [({name: value for name, value in fields.items() if name in names}, why) for fields, why in made]


def model_drop(made, names):
    return [({name: value for name, value in fields.items() if name not in names}, why) for fields, why in made]


def model_sort(made, name, down):
    """Sort by putting each row ahead of the first one that has to stand behind it."""
    told = []
    for one in made:
        at = 0
        while at < len(told) and not stands_ahead(one[0].get(name), told[at][0].get(name), down):
            at += 1
        told.insert(at, one)
    return told


def stands_ahead(one, other, down):
    if down:
        one, other = other, one
    if one is None or other is None:
        return one is None and other is not None
    return one < other


def model_first(made, many):
    return [one for at, one in enumerate(made) if at < many]


def model_every(made, width):
    told = []
    for fields, why in made:
        span = None
        if "time" in fields:
            span = fields["time"]
            while span % width != 0:
                span -= 1
        told.append((replaced(fields, "span", span), why))
    return told


def model_sessions(made, gap, names):
    """Count, for each row, the gaps that are too wide among the times of its like ones up to its own."""
    told = []
    for fields, why in made:
        session = None
        if "time" in fields:
            likes = [other for other, ignored in made if alike(fields, other, names) and "time" in other]
            times = sorted({other["time"] for other in likes if other["time"] <= fields["time"]})
            session = sum(1 for one, other in zip(times, times[1:]) if other - one > gap)
        told.append((replaced(fields, "session", session), why))
    return told


def alike(one, other, names):
    return all(kind_and_value(one.get(name)) == kind_and_value(other.get(name)) for name in names)


def model_join(made, stage, others):
    ignored, source, name, within = stage
    told = []
    for fields, why in made:
        for other, other_why in others:
            if "time" not in fields or name not in fields or name not in other:
                continue
            if not alike(fields, other, [name]) or not -within <= other["time"] - fields["time"] <= within:
                continue
            joined = {own: value for own, value in fields.items() if own[:5] != "that_"}
            joined.update({"that_" + own: value for own, value in other.items()})
            joined["apart"] = other["time"] - fields["time"]
            told.append((joined, why | other_why))
    return told


def model_fold(made, things, names):
    groups = []
    for one in made:
        for group in groups:
            if alike(group[0][0], one[0], names):
                group.append(one)
                break
        else:
            groups.append([one])
    if names == () and groups == []:
        groups = [[]]
    return [model_folded(group, things, names) for group in groups]


def model_folded(group, things, names):
    told = {name: group[0][0][name] for name in names if name in group[0][0]}
    for name, how, field in things:
        values = sorted(fields[field] for fields, why in group if field in fields)
        if how == "count":
            told[name] = len(group)
        if how == "sum":
            told[name] = sum(values)
        if how == "least" and values:
            told[name] = values[0]
        if how == "most" and values:
            told[name] = values[-1]
        if how == "unlike":
            told[name] = len(set(values))
    return told, set().union(*[why for fields, why in group])


MODELS = {
    "where": model_where, "with": model_with, "keep": model_keep, "drop": model_drop, "sort": model_sort,
    "first": model_first, "every": model_every, "sessions": model_sessions, "fold": model_fold,
}


PLAIN_TELLERS = (
    "rows", "sources", "kinds", "floors", "holds", "struck", "indexes", "saves", "stands", "undoable", "redoable", "pieces",
)


def all_told(store):
    """Tell all that a store tells of itself, but for answers, so that two such things can be compared."""
    told = {name: getattr(store, name)() for name in PLAIN_TELLERS}
    told["len"] = len(store)
    told["summaries"] = [store.summary(at) for at in range(len(told["pieces"]))]
    flat = [model_flat(row)[0] for row in told["rows"]]
    for field in told["indexes"]:
        for value in {row[field] for row in flat if field in row}:
            told[field, value] = store.looked_up(field, value)
    for name, ignored in told["stands"]:
        # A twin is asked, as asking changes what was told last.
        told["changes", name] = store.twin().changes(name)
    told["lines"] = store_lines(store)
    return kind_and_value([[str(key), value] for key, value in sorted(told.items(), key=str)])


def filled_store(size=3):
    """Tell a store that has something of everything; its last deed but one is a tidy, its last one is taken back."""
    store = Store(size=size)
    for name in ("web", "app", "db_two", "old"):
        store.source(name)
    for name, sort in KINDS.items():
        store.field(name, sort=sort)
    for at in range(7):
        store.add((10 * at, "web", at, {"took": at * at, "user": "ann" if at % 2 else "bob"}))
    store.batch([(25, "app", at, {"done": at == 1}) for at in range(3)])
    store.add((1, "old", 0, {}))
    store.add((5, "old", 1, {"took": 1}))
    store.floor("old", 3)
    store.strike("web", 3)
    store.amend("web", 5, {"took": 77, "user": "cid", "done": True})
    store.hold("keeper", "web")
    store.hold("later", "web")
    store.add_index("took")
    store.add_index("source")
    store.save("slow", "from all | where took > 10")
    store.save("by_user", "from @slow | fold many = count by user")
    store.stand("watch", "from @by_user")
    store.stand("every_row", "from all | keep time source number took")
    store.tidy()
    store.source("zebra")
    store.undo()
    return store


class Watched(unittest.TestCase):
    """Stores at which deeds are done and refused."""

    def check_refused(self, store, error, deed, fields=None):
        """Check that a deed, a function of the store, is refused so, and that nothing changed."""
        before = all_told(store)
        with self.assertRaises(error) as caught:
            deed(store)
        self.assertIs(type(caught.exception), error)
        for name, value in (fields or {}).items():
            self.assertEqual(kind_and_value(getattr(caught.exception, name)), kind_and_value(value))
        self.assertEqual(all_told(store), before)

    def check_alike(self, told, wanted):
        """Check values with their kinds, so that True is not 1."""
        self.assertEqual(kind_and_value(told), kind_and_value(wanted))
