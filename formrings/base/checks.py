"""What is asked of the integers that are passed to the package."""

from formrings.errors import InvalidNumber

DIGITS = 60
LIMIT = 10 ** 60


def is_any_integer(value):
    """Whether the value is an integer of any length."""
    # bool is derived from int, but True and False are no integers here.
    return isinstance(value, int) and not isinstance(value, bool)


def is_short_integer(value):
    """Whether the value is an integer of at most sixty digits."""
    # Compared, not written out: Python refuses to write very long integers.
    return is_any_integer(value) and -LIMIT < value < LIMIT


def is_between(value, low, high):
    """Whether the value is an integer from low to high."""
    return is_short_integer(value) and low <= value <= high


def are_any_integers(value, many):
    """Whether the value is a tuple of so many integers of any length."""
    if not isinstance(value, tuple) or len(value) != many:
        return False
    return all([is_any_integer(number) for number in value])


def are_short_integers(value, many):
    """Whether the value is a tuple of so many integers of at most sixty digits."""
    if not isinstance(value, tuple) or len(value) != many:
        return False
    # The same as is_short_integer, written out, since rows are checked often.
    return all([isinstance(n, int) and not isinstance(n, bool) and -LIMIT < n < LIMIT for n in value])


def is_written_integer(word):
    """Whether a string is the text of an integer of at most sixty digits, without needless signs and zeros."""
    digits = word[1:] if word.startswith("-") else word
    if not 1 <= len(digits) <= DIGITS or not all([sign in "0123456789" for sign in digits]):
        return False
    return word == "0" or not digits.startswith("0")


def check_integer(value):
    """Refuse what is no integer of at most sixty digits."""
    if not is_short_integer(value):
        raise InvalidNumber(value)


def check_between(value, low, high):
    """Refuse what is no integer from low to high."""
    if not is_between(value, low, high):
        raise InvalidNumber(value)
