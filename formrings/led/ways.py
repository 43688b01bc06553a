"""Ways: changes that lead one form to another one. Turns: ways from a form to itself."""

from formrings.base.changes import both, check_change, determinant_of, is_change, taken_back
from formrings.errors import InvalidChange, InvalidOperation
from formrings.form.forms import check_form, form_led, form_of
from formrings.led.least import check_digits, check_short_form
from formrings.led.moves import least_of, turns_of_least, way_down

MOST_DIGITS = 20


def check_pair(one, other):
    """Refuse what are no two forms with coefficients of at most MOST_DIGITS digits."""
    check_form(one)
    check_form(other)
    check_digits(one)
    check_digits(other)


def check_discriminant(form):
    """Refuse a form with the discriminant 0."""
    if form.discriminant == 0:
        raise InvalidOperation("the discriminant is 0")


def all_ways(one, other):
    """The ascending list of all ways from one form to another one, by their coefficients."""
    first, second = way_down(one), way_down(other)
    least = form_led(one, first)
    if least != form_led(other, second):
        return []
    return sorted([both(both(first, turn), taken_back(second)) for turn in turns_of_least(least)])


def leads(one, other, change):
    """Whether the change leads the one form to the other one."""
    return form_led(one.coefficients, change) == other.coefficients


def parting(one, other):
    """None if the forms are led to one another, and otherwise the pair of their least forms."""
    check_pair(one, other)
    first, second = least_of(one.coefficients), least_of(other.coefficients)
    return None if first == second else (form_of(first), form_of(second))


def are_led(one, other):
    """Whether there is a way from one form to the other one."""
    return parting(one, other) is None


def way(one, other):
    """A way from one form to the other one, or None."""
    check_pair(one, other)
    found = both(way_down(one.coefficients), taken_back(way_down(other.coefficients)))
    return found if leads(one, other, found) else None


def is_way(one, other, value):
    """Whether the value is a way from one form to the other one."""
    check_pair(one, other)
    return is_change(value) and leads(one, other, value)


def ways(one, other):
    """The ascending tuple of all ways from one form to the other one."""
    check_pair(one, other)
    check_discriminant(one)
    check_discriminant(other)
    return tuple(all_ways(one.coefficients, other.coefficients))


def turns(form):
    """The ascending tuple of all ways from the form to itself."""
    check_short_form(form)
    check_discriminant(form)
    return tuple(all_ways(form.coefficients, form.coefficients))


def images(one, other, change):
    """The triples, in the ring of one, of the images of w and t of the ring of other."""
    check_pair(one, other)
    check_change(change)
    if not leads(one, other, change):
        raise InvalidChange("the change is no way from one form to the other one")
    (p, q), (r, s) = change
    a, b, c, d = one.coefficients
    e = determinant_of(change)
    left, right = p * r * a + q * s * c, p * r * b + q * s * d
    return ((e * (p * left + q * right), p, q), (-e * (s * right + r * left), r, s))
