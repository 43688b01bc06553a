"""Rings of third roots of integers."""

from math import isqrt

from formrings.above.places import form_around
from formrings.base.checks import check_between
from formrings.base.integers import raised, times_within
from formrings.form.forms import form_of
from formrings.led.moves import least_of

MAX_THIRD = 10 ** 12


def check_third(number):
    """Refuse what is no integer from 2 to MAX_THIRD."""
    check_between(number, 2, MAX_THIRD)


def root_pair(number):
    """The pair (a, b) for which the number is a b b times a third power."""
    a, b = 1, 1
    left = number
    divisor = 2
    while divisor * divisor * divisor <= left:
        if left % divisor == 0:
            times = times_within(left, divisor)
            left = left // raised(divisor, times)
            a = a * divisor if times % 3 == 1 else a
            b = b * divisor if times % 3 == 2 else b
        divisor = divisor + 2 if divisor > 2 else 3
    # What is left has at most two primes, so it is 1, the square of a prime, or divided by the square of no prime.
    side = isqrt(left)
    return (a, b * side) if side * side == left else (a * left, b)


def third_root(number):
    """The pair (a, b) for which the number is a, times the square of b, times a third power."""
    check_third(number)
    return root_pair(number)


def third_form(number):
    """The form (a, 0, 0, b) of the pair of the number."""
    check_third(number)
    a, b = root_pair(number)
    return form_of((a, 0, 0, b))


def third_greatest(number):
    """The pair of the least form of the greatest ring above that of the form of the number, and of the index."""
    check_third(number)
    a, b = root_pair(number)
    if (a * a - b * b) % 9 != 0:
        return (form_of(least_of((a, 0, 0, b))), 1)
    place = (2, 1) if (a - b) % 9 == 0 else (1, 1)
    return (form_of(least_of(form_around((a, 0, 0, b), 3, place))), 3)
