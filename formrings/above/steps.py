"""Rings below and above the ring of a form, and the greatest one."""

from formrings.above.places import (
    first_bar, form_around, form_divided, form_within, is_content_told, is_heavy_at, is_place, is_place_told,
    is_root_at, places_of_heavy_roots, places_of_roots)
from formrings.base.integers import check_prime
from formrings.errors import InvalidOperation, TooMany
from formrings.form.forms import check_form, form_of
from formrings.led.moves import least_of

MAX_STEPPED = 100000000


def check_stepped(form):
    """Refuse what is no form, the discriminant 0, and discriminants that are too great."""
    check_form(form)
    number = form.discriminant
    if number == 0:
        raise InvalidOperation("the discriminant is 0")
    if abs(number) > MAX_STEPPED:
        raise TooMany(MAX_STEPPED)


def step_over(bar_told):
    """The step that removes a bar."""
    if bar_told[0] == "content":
        return ("part", bar_told[1])
    return ("above", bar_told[1], bar_told[2])


def is_step(coefficients, value):
    """Whether the value is a step that can be done with the form."""
    return is_content_told(coefficients, value, "part") or is_place_told(coefficients, value, "above")


def after_step(coefficients, step):
    """The coefficients behind a step that can be done."""
    if step[0] == "part":
        return form_divided(coefficients, step[1])
    return form_around(coefficients, step[1], step[2])


def after_steps(coefficients, value):
    """The coefficients behind all steps of the value, or None if it is no tuple of steps that can be done."""
    if not isinstance(value, tuple):
        return None
    left = coefficients
    for step in value:
        if not is_step(left, step):
            return None
        left = after_step(left, step)
    return left


def steps_up(coefficients):
    """The steps to the form of the greatest ring."""
    found = []
    left = coefficients
    told = first_bar(left)
    while told is not None:
        found.append(step_over(told))
        left = after_step(left, found[-1])
        told = first_bar(left)
    return found


def roots_at(form, prime):
    """The ascending tuple of the roots of the form at the prime."""
    check_form(form)
    check_prime(prime)
    return tuple(places_of_roots(form.coefficients, prime))


def heavy_places(form, prime):
    """The ascending tuple of the heavy roots of the form at the prime."""
    check_form(form)
    check_prime(prime)
    return tuple(places_of_heavy_roots(form.coefficients, prime))


def below(form, prime, place):
    """The form of the ring within at a root."""
    check_form(form)
    check_prime(prime)
    if not is_place(place, prime) or not is_root_at(form.coefficients, prime, place):
        raise InvalidOperation("the place is no root of the form at the prime")
    return form_of(form_within(form.coefficients, prime, place))


def above(form, prime, place):
    """The form of the ring around at a heavy root."""
    check_form(form)
    check_prime(prime)
    if not is_place(place, prime) or not is_heavy_at(form.coefficients, prime, place):
        raise InvalidOperation("the place is no heavy root of the form at the prime")
    return form_of(form_around(form.coefficients, prime, place))


def bar(form):
    """What shows that the ring is not greatest, or None."""
    check_stepped(form)
    return first_bar(form.coefficients)


def is_bar(form, value):
    """Whether the value shows that the ring of the form is not greatest."""
    check_stepped(form)
    if is_content_told(form.coefficients, value, "content"):
        return True
    return is_place_told(form.coefficients, value, "place")


def is_greatest(form):
    """Whether the ring of the form is greatest."""
    return bar(form) is None


def greatest(form):
    """The pair of the least form of the greatest ring, and of the index of the ring in it."""
    check_stepped(form)
    left = form.coefficients
    index = 1
    for step in steps_up(left):
        left = after_step(left, step)
        index = index * (step[1] * step[1] if step[0] == "part" else step[1])
    return (form_of(least_of(left)), index)


def path(form):
    """A tuple of steps from the form to the form of a greatest ring."""
    check_stepped(form)
    return tuple(steps_up(form.coefficients))


def is_path(form, value):
    """Whether the value is a tuple of steps from the form to the form of a greatest ring."""
    check_stepped(form)
    last = after_steps(form.coefficients, value)
    return last is not None and first_bar(last) is None


def behind(form, path):
    """The form to which the steps of a path lead."""
    check_stepped(form)
    last = after_steps(form.coefficients, path)
    if last is None:
        raise InvalidOperation("a path is a tuple of steps that can be done one after the other")
    return form_of(last)
