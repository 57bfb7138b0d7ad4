"""Rows: tuples (time, source, number, fields), flat and written."""

from logdelve.errors import BadText
from logdelve.values import is_name, number_in, value_in, value_text

# A flat row has these beside its fields, so no field is called so.
ROW_NAMES = ("time", "source", "number")


def flat(row):
    """Tell a row as one new dict: its fields, its time, source and number."""
    time, source, number, fields = row
    return {**fields, "time": time, "source": source, "number": number}


def copied(row):
    """Tell the same row with a dict of its own."""
    time, source, number, fields = row
    return time, source, number, dict(fields)


def row_text(row):
    """Write a row."""
    time, source, number, fields = row
    words = [value_text(time), source, value_text(number)]
    for name in sorted(fields):
        words.append(f"{name}={value_text(fields[name])}")
    return " ".join(words)


def read_row(text):
    """Tell the row that text writes; the place in BadText counts words."""
    # Blanks that are too many part empty words, which are wrong at their own places.
    words = text.split(" ")
    time = number_in(words[0])
    if time is None:
        raise BadText(0)
    if len(words) < 2 or not is_name(words[1]):
        raise BadText(1)
    number = number_in(words[2]) if len(words) > 2 else None
    if number is None or number < 0:
        raise BadText(2)
    return time, words[1], number, read_fields(words)


def read_fields(words):
    """Tell the fields among the words of a row, which stand behind its time, source and number."""
    fields = {}
    ahead = ""
    for at, word in enumerate(words[3:], start=3):
        name, sign, written = word.partition("=")
        value = value_in(written)
        if value is None or not is_field_name(name) or name <= ahead:
            raise BadText(at)
        fields[name] = value
        ahead = name
    return fields


def is_field_name(text):
    """Tell whether a row's field may be called so."""
    return is_name(text) and text not in ROW_NAMES
