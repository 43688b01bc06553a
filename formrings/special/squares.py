"""Forms with turns of order three, and greatest rings whose discriminants are squares."""

from math import isqrt

from formrings.above.places import first_bar
from formrings.base.checks import check_between, check_integer
from formrings.base.integers import factored, is_prime
from formrings.errors import InvalidNumber, InvalidOperation
from formrings.form.doubles import double_led
from formrings.form.forms import check_form, form_hessian, form_of
from formrings.form.roots import form_roots
from formrings.led.moves import double_way, least_of

MAX_CONDUCTOR = 300
MAX_PARTED = 10 ** 4


def check_parted(prime):
    """Refuse what is no prime from 7 to MAX_PARTED that leaves 1 by 3."""
    check_between(prime, 7, MAX_PARTED)
    if prime % 3 != 1 or not is_prime(prime):
        raise InvalidNumber(prime)


def turning(first, second):
    """The coefficients of the turning form of two integers."""
    return (first, second, second - 3 * first, -first)


def is_whole_square(number):
    """Whether the number is the square of an integer."""
    return number >= 0 and isqrt(number) * isqrt(number) == number


def parts_of(prime):
    """The pair (L, M) of integers for which L L + 27 M M is four times the prime."""
    last = 1
    while not is_whole_square(4 * prime - 27 * last * last):
        last += 1
    size = isqrt(4 * prime - 27 * last * last)
    return (size, last) if size % 3 == 1 else (-size, last)


def is_product_of_members(conductor):
    """Whether the number is the product of unlike members, one at least, of the list of 9 and the primes 3 n + 1."""
    pairs = factored(conductor)
    if len(pairs) == 0:
        return False
    return all([(prime % 3 == 1 and times == 1) or (prime, times) == (3, 2) for prime, times in pairs])


def turning_pairs(conductor):
    """The pairs (a, b), with a above 0, for which b b - 3 a b + 9 a a is the conductor."""
    found = []
    for a in range(1, isqrt(4 * conductor // 27) + 1):
        inner = 4 * conductor - 27 * a * a
        side = isqrt(inner)
        # The side is odd exactly if 3 a is, where it is a root.
        if side * side == inner:
            found.extend([(a, (3 * a + side) // 2), (a, (3 * a - side) // 2)])
    return found


def is_field(coefficients):
    """Whether the form has no root, and its ring is greatest."""
    return len(form_roots(coefficients)) == 0 and first_bar(coefficients) is None


def turning_form(first, second):
    """The turning form of two integers."""
    check_integer(first)
    check_integer(second)
    return form_of(turning(first, second))


def is_turning(form):
    """Whether the form is alike to some turning form."""
    check_form(form)
    number = form.discriminant
    if number == 0:
        raise InvalidOperation("the discriminant is 0")
    if not is_whole_square(number):
        return False
    # A turn of order three keeps the Hessian, too, which is then alike to some (P, P, P). And if it is, the change of
    # order three that keeps the Hessian keeps the form, which is a sum of third powers of the Hessian's two factors.
    hessian = form_hessian(form.coefficients)
    first, middle, last = double_led(hessian, double_way(hessian))
    return first == middle and middle == last


def prime_parts(prime):
    """The pair (L, M) of integers for which L L + 27 M M is four times the prime."""
    check_parted(prime)
    return parts_of(prime)


def prime_form(prime):
    """The turning form whose discriminant is the square of the prime."""
    check_parted(prime)
    size, last = parts_of(prime)
    return form_of(turning(last, (size + 3 * last) // 2))


def period_form(prime):
    """The form of periods of the prime."""
    check_parted(prime)
    size, _ = parts_of(prime)
    return form_of((1, 1, -(prime - 1) // 3, -(prime * (size + 3) - 1) // 27))


def square_fields(conductor):
    """The ascending tuple of the least forms without a root of greatest rings with the square as discriminant."""
    check_between(conductor, 1, MAX_CONDUCTOR)
    if not is_product_of_members(conductor):
        return ()
    found = sorted([least_of(turning(a, b)) for a, b in turning_pairs(conductor)])
    # Equal ones stand side by side.
    unlike = [form for at, form in enumerate(found) if at == 0 or found[at - 1] != form]
    return tuple([form_of(form) for form in unlike if is_field(form)])
