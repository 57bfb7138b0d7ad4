"""What several tests use: faults' places and kinds of values."""

from logdelve.errors import BadText


def fault_at(read, text):
    """Tell the place of the BadText that reading a text raises, or None where it is read."""
    try:
        read(text)
    except BadText as caught:
        return caught.at
    return None


def kind_and_value(value):
    """Tell a value so that True and 1 differ, all the way down."""
    if isinstance(value, (list, tuple)):
        return type(value).__name__, [kind_and_value(one) for one in value]
    if isinstance(value, dict):
        return "dict", sorted((name, kind_and_value(one)) for name, one in value.items())
    return type(value).__name__, value
