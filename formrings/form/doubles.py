"""Doubles: forms of degree two."""

from formrings.base.changes import check_change
from formrings.base.checks import are_short_integers, check_integer
from formrings.base.integers import shared_divisor
from formrings.errors import InvalidDouble


def double_value(coefficients, x, y):
    """The value of the double with these coefficients."""
    first, middle, last = coefficients
    return first * x * x + middle * x * y + last * y * y


def double_discriminant(coefficients):
    """The discriminant of the double with these coefficients."""
    first, middle, last = coefficients
    return middle * middle - 4 * first * last


def double_led(coefficients, change):
    """The coefficients of the double to which the change leads that with these coefficients."""
    first, middle, last = coefficients
    (p, q), (r, s) = change
    between = 2 * first * p * r + middle * (p * s + q * r) + 2 * last * q * s
    return (double_value(coefficients, p, q), between, double_value(coefficients, r, s))


def double_of(coefficients):
    """The double with these three integers, which can have any length."""
    double = Double((0, 0, 0))
    double._coefficients = coefficients
    return double


class Double:
    """A double A x x + B x y + C y y. It never changes."""

    def __init__(self, coefficients):
        if not are_short_integers(coefficients, 3):
            raise InvalidDouble("a double has a tuple of three integers")
        self._coefficients = tuple(coefficients)

    @property
    def coefficients(self):
        """The integers A, B and C."""
        return self._coefficients

    @property
    def discriminant(self):
        """B B - 4 A C."""
        return double_discriminant(self._coefficients)

    @property
    def content(self):
        """The greatest common divisor of the coefficients."""
        return shared_divisor(self._coefficients)

    def __call__(self, x, y):
        check_integer(x)
        check_integer(y)
        return double_value(self._coefficients, x, y)

    def led(self, change):
        """The double to which the change leads this one."""
        check_change(change)
        return double_of(double_led(self._coefficients, change))

    def __neg__(self):
        return double_of(tuple([-number for number in self._coefficients]))

    def __eq__(self, other):
        return isinstance(other, Double) and self._coefficients == other._coefficients

    def __str__(self):
        return str(self._coefficients)
