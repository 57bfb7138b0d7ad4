"""The order of rows, and places in lists that stand in order."""


def order_of(row):
    """Tell the key by which rows stand in order: time, then source, then number."""
    return row[:3]


def place_of(key, many, key_at):
    """Tell the first of so many places, whose keys rise, that has a key not below this one; many where none has."""
    low = 0
    high = many
    while low < high:
        middle = (low + high) // 2
        if key_at(middle) < key:
            low = middle + 1
        else:
            high = middle
    return low
