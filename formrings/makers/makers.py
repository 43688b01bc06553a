"""Makers: pairs at which a form has the value 1 or -1."""

from math import isqrt

from formrings.base.changes import determinant_of, is_change
from formrings.base.checks import are_short_integers, check_between
from formrings.base.integers import cofactors, shared_divisor
from formrings.errors import InvalidOperation, Refused
from formrings.form.forms import check_form, form_led, form_of, form_value
from formrings.form.roots import form_roots
from formrings.led.moves import end_way
from formrings.ring.rings import Ring

MAX_MAKERS = 50
MAX_MODULUS = 60
# The least bar is one of these. The opposite of a value is a value, so the rests by m n are told by those by m and by
# n, where these have no common divisor. A value that leaves 1 by a prime other than 3 can be bettered to leave 1 by
# each of its powers, since then some derivative leaves no 0; and what leaves 1 by 9 is a third power by 27.
MODULI = (2, 3, 5, 7, 9, 11, 13, 17, 19, 23, 29, 31, 37, 41, 43, 47, 53, 59)


def with_opposites(pairs):
    """The ascending tuple of the pairs and their opposites."""
    return tuple(sorted(pairs + [(-x, -y) for x, y in pairs]))


def row_makers(coefficients, most, y):
    """The makers (x, y) with x from -most to most."""
    a, b, c, d = coefficients
    second, third, last = b * y, c * y * y, d * y * y * y
    return [(x, y) for x in range(-most, most + 1) if ((a * x + second) * x + third) * x + last in (1, -1)]


def whole_zeros(first, middle, last):
    """The integers x for which first x x + middle x + last is 0; first and middle are not both 0."""
    if first == 0:
        return [-last // middle] if last % middle == 0 else []
    inner = middle * middle - 4 * first * last
    if inner < 0 or isqrt(inner) * isqrt(inner) != inner:
        return []
    side = isqrt(inner)
    tops = [side - middle, -side - middle] if side > 0 else [-middle]
    return [top // (2 * first) for top in tops if top % (2 * first) == 0]


def makers_at_end(coefficients):
    """The makers (x, 1) of a form (0, b, c, d)."""
    _, b, c, d = coefficients
    if b == 0 and c == 0:
        # The form is d y y y.
        if d in (1, -1):
            raise Refused(("endless",))
        return []
    return [(x, 1) for worth in (1, -1) for x in whole_zeros(b, c, d - worth)]


def is_maker(coefficients, value):
    """Whether the value is a maker of the form, with integers of at most sixty digits."""
    return are_short_integers(value, 2) and form_value(coefficients, value[0], value[1]) in (1, -1)


def check_maker(form, pair):
    """Refuse what is no form, and what is no maker of it."""
    check_form(form)
    if not is_maker(form.coefficients, pair):
        raise InvalidOperation("the pair is no maker of the form")


def third_powers(modulus):
    """The dict from the rests of the third powers of those numbers that have an inverse, for one of MODULI."""
    prime = 3 if modulus == 9 else modulus
    return {x * x * x % modulus: True for x in range(modulus) if x % prime != 0}


def is_barred_by(coefficients, modulus):
    """Whether no value of the form leaves 1 by this one of MODULI."""
    a, b, c, d = [number % modulus for number in coefficients]
    powers = third_powers(modulus)
    # A value that is a third power is moved to 1 by dividing x and y. So one of x and y can be taken as 1.
    for x in range(modulus):
        if (((a * x + b) * x + c) * x + d) % modulus in powers:
            return False
    for y in (0, 3, 6):
        if (((d * y + c) * y + b) * y + a) % modulus in powers:
            return False
    return True


def makers(form, most):
    """The ascending tuple of all makers with integers from -most to most."""
    check_form(form)
    check_between(most, 1, MAX_MAKERS)
    found = [(1, 0)] if form.coefficients[0] in (1, -1) else []
    for y in range(1, most + 1):
        found.extend(row_makers(form.coefficients, most, y))
    return with_opposites(found)


def all_makers(form):
    """The ascending tuple of all makers of a form with a rational root."""
    check_form(form)
    if not form:
        raise InvalidOperation("the form is 0")
    roots = form_roots(form.coefficients)
    if len(roots) == 0:
        raise InvalidOperation("the form has no rational root")
    (p, q), (r, s) = end_way(roots[0])
    led = form_led(form.coefficients, ((p, q), (r, s)))
    return with_opposites([(p * x + r * y, q * x + s * y) for x, y in makers_at_end(led)])


def maker_bar(form):
    """The least bar of makers from 2 to MAX_MODULUS, or None."""
    check_form(form)
    for modulus in MODULI:
        if is_barred_by(form.coefficients, modulus):
            return modulus
    return None


def common_index(form):
    """The greatest common divisor of all values of the form."""
    check_form(form)
    a, b, c, d = form.coefficients
    return shared_divisor((a, d, b + c, 2 * b))


def maker_way(form, pair):
    """A change with the maker as its first row that leads the form to some (1, b, c, d)."""
    check_maker(form, pair)
    p, q = pair
    e = form_value(form.coefficients, p, q)
    i, j = cofactors(p, q)
    return ((p, q), (-e * j, e * i))


def is_maker_way(form, pair, value):
    """Whether the value is a change with the maker as its first row that leads the form to some (1, b, c, d)."""
    check_maker(form, pair)
    if not is_change(value) or value[0] != pair:
        return False
    return determinant_of(value) == form_value(form.coefficients, pair[0], pair[1])


def ring_made(polynomial):
    """The ring of the form (1, b, c, d)."""
    if not are_short_integers(polynomial, 3):
        raise InvalidOperation("a tuple of three integers is asked for")
    b, c, d = polynomial
    return Ring(form_of((1, b, c, d)))
