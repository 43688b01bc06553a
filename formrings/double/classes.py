"""Classes of forms of degree two."""

from math import isqrt

from formrings.base.checks import check_between, is_between
from formrings.base.integers import is_fundamental
from formrings.double.reduced import (
    all_leasts, all_with, first_of, low_with, order_of_class, power_of_class, product_of)
from formrings.errors import InvalidDouble, InvalidNumber
from formrings.form.doubles import Double, double_of

MOST_BELOW = 100000
MOST_ABOVE = 10000
MOST_TIMES = 1000


def is_of_classes(number):
    """Whether the number is a discriminant of classes."""
    if not is_between(number, -MOST_BELOW, MOST_ABOVE) or number % 4 > 1:
        return False
    return number < 0 or isqrt(number) * isqrt(number) != number


def check_number(number):
    """Refuse what is no discriminant of classes."""
    if not is_of_classes(number):
        raise InvalidNumber(number)


def check_class(value):
    """Refuse what is no double of a class."""
    if not isinstance(value, Double):
        raise InvalidDouble("an object of Double is asked for")
    if value.content != 1 or not is_of_classes(value.discriminant):
        raise InvalidDouble("the double is not of a class")
    if value.discriminant < 0 and value.coefficients[0] < 0:
        raise InvalidDouble("the first coefficient is below 0")


def check_classes(one, other):
    """Refuse what are no two doubles of classes of one discriminant."""
    check_class(one)
    check_class(other)
    if one.discriminant != other.discriminant:
        raise InvalidDouble("the doubles have two discriminants")


def low_of(double):
    """The coefficients of some reduced double of the class."""
    first, middle, _ = double.coefficients
    return low_with(double.discriminant, first, middle)


def least_from(number, low):
    """The least double of the class of a reduced one."""
    return double_of(min(all_with(number, low)))


def least_double(double):
    """The least double of the class."""
    check_class(double)
    return least_from(double.discriminant, low_of(double))


def are_in_one_class(one, other):
    """Whether the doubles are in one class."""
    check_classes(one, other)
    return low_of(other) in all_with(one.discriminant, low_of(one))


def first_class(number):
    """The least double of the first class."""
    check_number(number)
    return least_from(number, first_of(number))


def classes_of(number):
    """The ascending tuple of the least doubles of all classes."""
    check_number(number)
    return tuple([double_of(coefficients) for coefficients in all_leasts(number)])


def together(one, other):
    """The least double of the product of two classes."""
    check_classes(one, other)
    number = one.discriminant
    return least_from(number, product_of(number, low_of(one), low_of(other)))


def order_of(double):
    """The order of the class."""
    check_class(double)
    return order_of_class(double.discriminant, low_of(double))


def power_of(double, many):
    """The least double of the class, taken so many times."""
    check_class(double)
    check_between(many, -MOST_TIMES, MOST_TIMES)
    number = double.discriminant
    first, middle, _ = double.coefficients
    low = low_with(number, first, middle if many >= 0 else -middle)
    return least_from(number, power_of_class(number, low, abs(many)))


def is_third(number, low):
    """Whether the third power of the class of a reduced double is the first class."""
    # Then the square of the class is the class that undoes it.
    return product_of(number, low, low) in all_with(number, low_with(number, low[0], -low[1]))


def thirds(number):
    """The number of classes whose third power is the first class."""
    check_number(number)
    found = all_leasts(number)
    # The number of such classes is a power of 3 that divides the number of all.
    if len(found) % 3 != 0:
        return 1
    return len([one for one in found if is_third(number, one)])


def ring_count(number):
    """The number of rings with a fundamental discriminant."""
    check_number(number)
    if not is_fundamental(number):
        raise InvalidNumber(number)
    return (thirds(number) + 1) // 2
