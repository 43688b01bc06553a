"""Least forms: one of each class of alike forms."""

from formrings.base.integers import raised
from formrings.errors import TooMany
from formrings.form.forms import check_form, form_of
from formrings.led.moves import least_of, way_down

MOST_DIGITS = 20


def are_within_digits(coefficients):
    """Whether no coefficient has more than MOST_DIGITS digits."""
    limit = raised(10, MOST_DIGITS)
    return all([-limit < number < limit for number in coefficients])


def check_digits(form):
    """Refuse a form with a coefficient of more than MOST_DIGITS digits."""
    if not are_within_digits(form.coefficients):
        raise TooMany(MOST_DIGITS)


def check_short_form(form):
    """Refuse what is no form, and a form with longer coefficients."""
    check_form(form)
    check_digits(form)


def is_least(form):
    """Whether the form is the least one of its class."""
    check_short_form(form)
    return least_of(form.coefficients) == form.coefficients


def least_form(form):
    """The least form of the class of the form."""
    check_short_form(form)
    return form_of(least_of(form.coefficients))


def way_to_least(form):
    """A change that leads the form to its least form."""
    check_short_form(form)
    return way_down(form.coefficients)
