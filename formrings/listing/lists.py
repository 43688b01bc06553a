"""Lists of all rings with told discriminants."""

from formrings.above.steps import is_greatest
from formrings.base.checks import check_between
from formrings.errors import InvalidNumber, InvalidOperation
from formrings.form.forms import form_of
from formrings.listing.search import least_forms

MAX_DISCRIMINANT = 100000
MAX_LISTED = 300


def rings_of(number):
    """The ascending tuple of all least forms with this discriminant."""
    check_between(number, -MAX_DISCRIMINANT, MAX_DISCRIMINANT)
    if number == 0:
        raise InvalidNumber(number)
    return tuple([form_of(coefficients) for coefficients in least_forms(number)])


def with_roots(number):
    """Those of the least forms with this discriminant that have a rational root."""
    return tuple([form for form in rings_of(number) if len(form.roots()) > 0])


def fields_of(number):
    """Those of the least forms with this discriminant that have no rational root, and whose ring is greatest."""
    return tuple([form for form in rings_of(number) if len(form.roots()) == 0 and is_greatest(form)])


def rings_to(most, *, below=False):
    """The dict from each discriminant of a ring from 1 to most, or from -most to -1, to its least forms."""
    check_between(most, 1, MAX_LISTED)
    if not isinstance(below, bool):
        raise InvalidOperation("below is True or False")
    first = -most if below else 1
    found = {}
    for number in range(first, first + most):
        forms = rings_of(number)
        if len(forms) > 0:
            found[number] = forms
    return found
