"""What terms come to by a dict of fields, and of which sort that is."""

from logdelve.errors import BadTerm
from logdelve.terms import built_up
from logdelve.values import FLAG, NUMBER, SORTS, likeness


def worth_of(term, fields):
    """Tell the value to which a term comes by the fields, or None where it lacks."""
    return built_up(term, lambda part, worths: part_worth(part, worths, fields))


def part_worth(part, worths, fields):
    """Tell what a term comes to, by what its parts come to."""
    kind = part[0]
    if kind in SORTS:
        return part[1]
    if kind == "field":
        return fields.get(part[1])
    if kind == "has":
        return part[1] in fields
    if kind == "and":
        return both(worths[0], worths[1])
    if kind == "or":
        return either(worths[0], worths[1])
    if any([worth is None for worth in worths]):
        return None
    if kind == "not":
        return not worths[0]
    return joined_worth(kind, worths[0], worths[1])


def both(left, right):
    """Tell whether two flags are yes; None where a lacking one decides."""
    if left is False or right is False:
        return False
    if left is None or right is None:
        return None
    return True


def either(left, right):
    """Tell whether one of two flags is yes; None where a lacking one decides."""
    if left is True or right is True:
        return True
    if left is None or right is None:
        return None
    return False


def joined_worth(sign, left, right):
    """Tell what two values come to by a sign between them."""
    match sign:
        case "+":
            return left + right
        case "-":
            return left - right
        case "*":
            return left * right
        case "<":
            return left < right
        case "<=":
            return left <= right
        case ">":
            return left > right
        case ">=":
            return left >= right
        case "=":
            return likeness(left) == likeness(right)
    return likeness(left) != likeness(right)


def sort_of_term(term, kinds):
    """Tell the sort of a term by the sorts of the fields; BadTerm where it has none."""
    return built_up(term, lambda part, sorts: part_sort(part, sorts, kinds))


def part_sort(part, sorts, kinds):
    """Tell the sort of a term by the sorts of its parts."""
    kind = part[0]
    if kind in SORTS:
        return kind
    if kind in ("field", "has"):
        if part[1] not in kinds:
            raise BadTerm()
        return kinds[part[1]] if kind == "field" else FLAG
    wanted = wanted_sort(kind, sorts)
    if any([sort != wanted for sort in sorts]):
        raise BadTerm()
    return NUMBER if kind in ("+", "-", "*") else FLAG


def wanted_sort(sign, sorts):
    """Tell the sort that all parts of a term must have."""
    if sign in ("not", "and", "or"):
        return FLAG
    # Values of any sort are like or unlike, as long as both are of one.
    if sign in ("=", "!="):
        return sorts[0]
    return NUMBER
