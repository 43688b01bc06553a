"""Changes of two unknowns."""

from formrings.base.checks import are_any_integers, are_short_integers, check_between
from formrings.errors import InvalidChange

IDLE = ((1, 0), (0, 1))
MAX_SPAN = 4


def determinant_of(change):
    """The determinant of a pair of pairs of integers."""
    (p, q), (r, s) = change
    return p * s - q * r


def is_change(value):
    """Whether the value is a change, with integers of any length."""
    if not isinstance(value, tuple) or len(value) != 2:
        return False
    if not all([are_any_integers(row, 2) for row in value]):
        return False
    return determinant_of(value) in (1, -1)


def is_short_change(value):
    """Whether the value is a change, with integers of at most sixty digits."""
    return is_change(value) and all([are_short_integers(row, 2) for row in value])


def check_change(value):
    """Refuse what is no change, or has an integer of more than sixty digits."""
    if not is_short_change(value):
        raise InvalidChange("a change is a pair of pairs of integers with the determinant 1 or -1")


def both(first, second):
    """The change that does the one and then the other, with integers of any length."""
    (p, q), (r, s) = first
    (i, j), (k, m) = second
    return ((i * p + j * r, i * q + j * s), (k * p + m * r, k * q + m * s))


def taken_back(change):
    """The change that takes the change back, with integers of any length."""
    e = determinant_of(change)
    (p, q), (r, s) = change
    return ((e * s, -e * q), (-e * r, e * p))


def joined(first, second):
    """The change that does what the first one does, and then what the second one does."""
    check_change(first)
    check_change(second)
    return both(first, second)


def undone(change):
    """The change that takes the change back."""
    check_change(change)
    return taken_back(change)


def changes_to(most):
    """All changes whose integers have sizes of at most most, ascending."""
    check_between(most, 0, MAX_SPAN)
    sizes = range(-most, most + 1)
    for p in sizes:
        for q in sizes:
            for r in sizes:
                for s in sizes:
                    if p * s - q * r in (1, -1):
                        yield ((p, q), (r, s))
