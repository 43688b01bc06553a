"""What is asked of the integers that are passed to the package."""

from formrings.errors import InvalidNumber

LIMIT = 10 ** 60


def is_any_integer(value):
    """Whether the value is an integer of any length."""
    # bool is derived from int, but True and False are no integers here.
    return isinstance(value, int) and not isinstance(value, bool)


def is_short_integer(value):
    """Whether the value is an integer of at most sixty digits."""
    # Compared, not written out: Python refuses to write very long integers.
    return is_any_integer(value) and -LIMIT < value < LIMIT


def is_between(value, low, high):
    """Whether the value is an integer from low to high."""
    return is_short_integer(value) and low <= value <= high


def are_any_integers(value, many):
    """Whether the value is a tuple of so many integers of any length."""
    if not isinstance(value, tuple) or len(value) != many:
        return False
    return all([is_any_integer(number) for number in value])


def are_short_integers(value, many):
    """Whether the value is a tuple of so many integers of at most sixty digits."""
    if not isinstance(value, tuple) or len(value) != many:
        return False
    return all([is_short_integer(number) for number in value])


def check_between(value, low, high):
    """Refuse what is no integer from low to high."""
    if not is_between(value, low, high):
        raise InvalidNumber(value)
