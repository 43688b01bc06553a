"""The kinds of forms at primes, their factors there, and the maps of their rings to residues."""

from formrings.above.places import END, is_full, places_of_roots
from formrings.base.checks import check_between
from formrings.base.integers import check_prime, is_prime, times_within
from formrings.base.polynomials import inverse_at
from formrings.errors import Refused
from formrings.form.forms import check_form
from formrings.prime.residues import factor_of, kind_of, root_times

MAX_PRIME = 10000
MAX_KINDS = 1000


def check_both(form, prime):
    """Refuse what is no form, and what is no prime."""
    check_form(form)
    check_prime(prime)


def map_of(coefficients, prime, place):
    """The map to the residues that a root tells."""
    a, b, c, _ = coefficients
    if place == END:
        return (b % prime, 0)
    x, _ = place
    return (-a * x % prime, -(a * x * x + b * x + c) % prime)


def kind_at(form, prime):
    """The kind of the form at the prime."""
    check_both(form, prime)
    return kind_of(form.coefficients, prime)


def factors_at(form, prime):
    """The pair of the unit and of the ascending tuple of the pairs of a factor and its exponent."""
    check_both(form, prime)
    if is_full(form.coefficients, prime):
        raise Refused(("all",))
    roots, rest = root_times(form.coefficients, prime)
    found = [(factor_of(place, prime), times) for place, times in roots]
    if len(rest) > 1:
        back = inverse_at(rest[0], prime)
        found.append((tuple([number * back % prime for number in rest]), 1))
    return (rest[0], tuple(sorted(found)))


def maps_at(form, prime):
    """The ascending tuple of all maps of the ring to the residues."""
    check_both(form, prime)
    if is_full(form.coefficients, prime):
        return ((0, 0),)
    places = places_of_roots(form.coefficients, prime)
    return tuple(sorted([map_of(form.coefficients, prime, place) for place in places]))


def times_in(form, prime):
    """How often the prime divides the discriminant."""
    check_both(form, prime)
    if form.discriminant == 0:
        raise Refused(("zero",))
    return times_within(form.discriminant, prime)


def kinds_to(form, most):
    """The dict from all primes up to most to the kinds of the form there."""
    check_form(form)
    check_between(most, 2, MAX_KINDS)
    return {prime: kind_of(form.coefficients, prime) for prime in range(2, most + 1) if is_prime(prime)}
