"""Places, roots and heavy roots at primes, over coefficients of any length."""

from formrings.base.checks import are_any_integers, is_between
from formrings.base.integers import GREATEST_PRIME, is_prime, primes_twice, shared_divisor
from formrings.base.polynomials import inverse_at, roots_of
from formrings.form.forms import form_discriminant, form_hessian, form_value

END = (1, 0)
# Roots at primes below this one are found by trying all residues, which is shorter there.
GREAT = 1000


def is_place(value, prime):
    """Whether the value is a place at the prime."""
    if not are_any_integers(value, 2):
        return False
    x, y = value
    return value == END or (y == 1 and 0 <= x < prime)


def is_root_at(coefficients, prime, place):
    """Whether the place is a root of the form at the prime."""
    x, y = place
    return form_value(coefficients, x, y) % prime == 0


def is_heavy_at(coefficients, prime, place):
    """Whether the place is a heavy root of the form at the prime."""
    a, b, c, d = coefficients
    x, _ = place
    if place == END:
        return a % (prime * prime) == 0 and b % prime == 0
    if (((a * x + b) * x + c) * x + d) % (prime * prime) != 0:
        return False
    return ((3 * a * x + 2 * b) * x + c) % prime == 0


def places_of_roots(coefficients, prime):
    """The ascending list of the roots of the form at the prime."""
    # Long coefficients are brought down once, ahead of the loop.
    a, b, c, d = [number % prime for number in coefficients]
    if prime < GREAT or not any([a, b, c, d]):
        found = [(x, 1) for x in range(prime) if (((a * x + b) * x + c) * x + d) % prime == 0]
    else:
        found = [(x, 1) for x in roots_of([a, b, c, d], prime)]
    return sorted(found + [END] if a == 0 else found)


def multiple_place(coefficients, prime):
    """The only place that can be a root twice, at a prime from 5 on that does not divide the content."""
    first, middle, _ = [number % prime for number in form_hessian(coefficients)]
    a, b, _, _ = [number % prime for number in coefficients]
    # Twice, it is the only root of the Hessian; three times, the Hessian is 0, and the form a third power.
    top, bottom = (middle, 2 * first) if first != 0 else (b, 3 * a)
    return END if bottom % prime == 0 else (-top * inverse_at(bottom, prime) % prime, 1)


def places_of_heavy_roots(coefficients, prime):
    """The ascending list of the heavy roots of the form at the prime."""
    short = tuple([number % (prime * prime) for number in coefficients])
    # A heavy root is there twice, modulo the prime.
    if prime < 5 or is_full(short, prime):
        places = places_of_roots(short, prime)
    else:
        places = [multiple_place(short, prime)]
    return [place for place in places if is_heavy_at(short, prime, place)]


def is_full(coefficients, prime):
    """Whether the prime divides the content."""
    return shared_divisor(coefficients) % prime == 0


def is_barred_at(coefficients, prime):
    """Whether the prime divides the content, or the form has a heavy root at it."""
    return is_full(coefficients, prime) or len(places_of_heavy_roots(coefficients, prime)) > 0


def form_within(coefficients, prime, place):
    """The coefficients of the form of the ring within at a root."""
    a, b, c, d = coefficients
    if place == END:
        return (a // prime, b, c * prime, d * prime * prime)
    x, _ = place
    last = form_value(coefficients, x, 1) // prime
    return (a * prime * prime, (3 * a * x + b) * prime, (3 * a * x + 2 * b) * x + c, last)


def form_around(coefficients, prime, place):
    """The coefficients of the form of the ring around at a heavy root."""
    a, b, c, d = coefficients
    if place == END:
        return (a // (prime * prime), b // prime, c, d * prime)
    x, _ = place
    last = form_value(coefficients, x, 1) // (prime * prime)
    return (a * prime, 3 * a * x + b, ((3 * a * x + 2 * b) * x + c) // prime, last)


def form_divided(coefficients, number):
    """The coefficients, divided by an integer."""
    return tuple([coefficient // number for coefficient in coefficients])


def first_bar(coefficients):
    """The bar with the least prime, the content first; None if the ring, whose discriminant is not 0, is greatest."""
    for prime in primes_twice(abs(form_discriminant(coefficients))):
        if is_full(coefficients, prime):
            return ("content", prime)
        places = places_of_heavy_roots(coefficients, prime)
        if len(places) > 0:
            return ("place", prime, places[0])
    return None


def is_told_prime(value):
    """Whether the value is a prime from 2 to GREATEST_PRIME."""
    return is_between(value, 2, GREATEST_PRIME) and is_prime(value)


def is_content_told(coefficients, value, word):
    """Whether the value is the pair of the word and of a prime that divides the content."""
    if not isinstance(value, tuple) or len(value) != 2 or value[0] != word:
        return False
    return is_told_prime(value[1]) and is_full(coefficients, value[1])


def is_place_told(coefficients, value, word):
    """Whether the value is the triple of the word, of a prime, and of a heavy root at the prime."""
    if not isinstance(value, tuple) or len(value) != 3 or value[0] != word:
        return False
    _, prime, place = value
    if not is_told_prime(prime) or not is_place(place, prime):
        return False
    return is_heavy_at(coefficients, prime, place)
