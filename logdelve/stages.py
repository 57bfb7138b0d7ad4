"""What the stages of a question make of rows, which are pairs here: a dict of fields and the row's reasons."""

from logdelve.rows import flat
from logdelve.values import likeness
from logdelve.worths import worth_of

# Ahead of the names of the fields that a join brings.
THAT = "that_"


def stage_rows(stage, pairs, stored):
    """Tell what a stage behind from makes of rows; stored are the rows that a join may read, in order."""
    if stage[0] == "join":
        return join_rows(pairs, stage, stored)
    word, *things = stage
    action = MAKERS[word]
    return action(pairs, *things)


def source_rows(names, stored):
    """Tell the rows of the sources, of all where none is named."""
    return [(flat(row), [(row[1], row[2])]) for row in stored if not names or row[1] in names]


def where_rows(pairs, term):
    """Tell the rows by which the term is yes."""
    return [(fields, reasons) for fields, reasons in pairs if worth_of(term, fields) is True]


def with_rows(pairs, name, term):
    """Tell the rows with what the term comes to in the field."""
    return [(with_field(fields, name, worth_of(term, fields)), reasons) for fields, reasons in pairs]


def with_field(fields, name, value):
    """Tell new fields with the value in the place of any so named; None is no value."""
    told = {other: fields[other] for other in fields if other != name}
    if value is not None:
        told[name] = value
    return told


def keep_rows(pairs, names):
    """Tell the rows with these fields alone."""
    return [({name: fields[name] for name in names if name in fields}, reasons) for fields, reasons in pairs]


def drop_rows(pairs, names):
    """Tell the rows without these fields."""
    return [({name: fields[name] for name in fields if name not in names}, reasons) for fields, reasons in pairs]


def sort_rows(pairs, name, down):
    """Tell the rows by their values in the field, like ones as they stood."""
    if down:
        return sorted(pairs, key=lambda pair: sort_key(pair[0], name), reverse=True)
    return sorted(pairs, key=lambda pair: sort_key(pair[0], name))


def sort_key(fields, name):
    """Tell a key by which lacking ones stand first, then the values by size."""
    return (1, fields[name]) if name in fields else (0, 0)


def first_rows(pairs, many):
    """Tell the first rows, so many or all."""
    return pairs[:many]


def every_rows(pairs, width):
    """Tell the rows with the spans of their times."""
    return [(with_field(fields, "span", span_of(fields, width)), reasons) for fields, reasons in pairs]


def span_of(fields, width):
    """Tell the greatest multiple of the width that isn't above the time; None without a time."""
    return fields["time"] // width * width if "time" in fields else None


def sessions_rows(pairs, gap, names):
    """Tell the rows with the sessions of their times, among rows that are alike in the names."""
    sessions = {}
    for places in groups_of(pairs, names):
        sessions.update(sessions_among(pairs, places, gap))
    return [
        (with_field(fields, "session", sessions.get(at)), reasons)
        for at, (fields, reasons) in enumerate(pairs)
    ]


def sessions_among(pairs, places, gap):
    """Tell the session of each of the rows at these places, but of those without a time."""
    times = {at: pairs[at][0]["time"] for at in places if "time" in pairs[at][0]}
    sessions = {}
    session = 0
    ahead = None
    for at in sorted(times, key=lambda place: times[place]):
        if ahead is not None and times[at] - ahead > gap:
            session += 1
        sessions[at] = session
        ahead = times[at]
    return sessions


def groups_of(pairs, names):
    """Tell the places of rows that are alike in all names, group by group in the order of their first ones."""
    groups = {}
    for at, (fields, reasons) in enumerate(pairs):
        key = tuple([likeness(fields.get(name)) for name in names])
        groups.setdefault(key, []).append(at)
    return list(groups.values())


def join_rows(pairs, stage, stored):
    """Tell each row beside each row of the source that has the same value and is near enough in time."""
    word, source, name, within = stage
    others = rows_by_value(source_rows((source,), stored), name)
    told = []
    for fields, reasons in pairs:
        if "time" in fields and name in fields:
            for other, other_reasons in others.get(likeness(fields[name]), []):
                if abs(other["time"] - fields["time"]) <= within:
                    told.append((joined_fields(fields, other), all_reasons([reasons, other_reasons])))
    return told


def rows_by_value(pairs, name):
    """Tell the rows that have a value in the field, by that value."""
    told = {}
    for fields, reasons in pairs:
        if name in fields:
            told.setdefault(likeness(fields[name]), []).append((fields, reasons))
    return told


def joined_fields(fields, other):
    """Tell the fields of two rows that stand beside one another."""
    told = {name: fields[name] for name in fields if not name.startswith(THAT)}
    for name in other:
        told[THAT + name] = other[name]
    told["apart"] = other["time"] - fields["time"]
    return told


def fold_rows(pairs, things, names):
    """Tell one row for all that are alike in the names."""
    groups = groups_of(pairs, names)
    # Without names even no rows are told of.
    if not names and not groups:
        groups = [[]]
    return [folded([pairs[at] for at in places], things, names) for places in groups]


def folded(pairs, things, names):
    """Tell the one row that rows become."""
    told = {}
    for name in names:
        told = with_field(told, name, pairs[0][0].get(name))
    for name, how, field in things:
        values = [fields[field] for fields, reasons in pairs if field in fields]
        told = with_field(told, name, len(pairs) if how == "count" else folded_value(how, values))
    return told, all_reasons([reasons for fields, reasons in pairs])


def folded_value(how, values):
    """Tell what values come to; None where there is none to tell."""
    if how == "sum":
        return sum(values)
    if how == "least":
        return min(values, default=None)
    if how == "most":
        return max(values, default=None)
    return len({likeness(value) for value in values})


def all_reasons(lists):
    """Tell the reasons of several rows, rising, each once."""
    return sorted({reason for reasons in lists for reason in reasons})


MAKERS = {
    "where": where_rows, "with": with_rows, "keep": keep_rows, "drop": drop_rows, "sort": sort_rows,
    "first": first_rows, "every": every_rows, "sessions": sessions_rows, "fold": fold_rows,
}
