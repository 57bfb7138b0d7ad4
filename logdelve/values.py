"""Values, their sorts and how they are written; words and names."""

from logdelve.errors import BadText

NUMBER = "number"
WORD = "word"
FLAG = "flag"
SORTS = (NUMBER, WORD, FLAG)

LETTERS = "abcdefghijklmnopqrstuvwxyz"
FIGURES = "0123456789"
NAME_SIGNS = LETTERS + "_"
WORD_SIGNS = LETTERS + FIGURES
MOST_SIGNS = 12
MOST_FIGURES = 30

# These have a meaning of their own in questions, so a field or a source can't be told apart from them.
KEPT_WORDS = (
    "and", "or", "not", "has", "yes", "no", "by", "up", "down",
    "count", "sum", "least", "most", "unlike", "all", "within",
)


def is_name(text):
    """Tell whether text is a name."""
    return begins_with_letter(text) and has_only(text, NAME_SIGNS, MOST_SIGNS) and text not in KEPT_WORDS


def is_word(text):
    """Tell whether text is a word."""
    return begins_with_letter(text) and has_only(text, WORD_SIGNS, MOST_SIGNS)


def begins_with_letter(text):
    """Tell whether the first sign of text is one of a to z."""
    return text != "" and text[0] in LETTERS


def has_only(text, signs, most):
    """Tell whether text has 1 to most signs, all of them among signs."""
    return 1 <= len(text) <= most and all([sign in signs for sign in text])


def sort_of(value):
    """Tell the sort of a value, or None for what is no value."""
    # True and False are integers for Python, so flags are asked for first.
    if isinstance(value, bool):
        return FLAG
    if isinstance(value, int):
        return NUMBER
    if isinstance(value, str) and is_word(value):
        return WORD
    return None


def likeness(value):
    """Tell a key that is the same for like values alone (and for lacking ones, which are None)."""
    # True equals 1 for Python, but yes is not like 1.
    return isinstance(value, bool), value


def value_text(value):
    """Write a value."""
    if isinstance(value, bool):
        return "yes" if value else "no"
    if isinstance(value, int):
        return str(value)
    return f"'{value}'"


def read_value(text):
    """Tell the value that text writes."""
    value = value_in(text)
    if value is None:
        raise BadText(0)
    return value


def value_in(text):
    """Tell the value that text writes, or None where it writes none."""
    if text in ("yes", "no"):
        return text == "yes"
    if text.startswith("'") and text.endswith("'"):
        word = text[1:-1]
        return word if is_word(word) else None
    return number_in(text)


def number_in(text):
    """Tell the number that text writes, or None where it writes none."""
    figures = text.removeprefix("-")
    if not has_only(figures, FIGURES, MOST_FIGURES):
        return None
    # Nought is written in one way only: neither 00 nor -0.
    if figures[0] == "0" and text != "0":
        return None
    return int(text)
