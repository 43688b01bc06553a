"""Reckoning modulo primes: factors of forms, and kinds."""

from formrings.above.places import END, places_of_roots
from formrings.base.polynomials import power_at
from formrings.form.forms import form_discriminant, form_hessian


def value_at(row, x, prime):
    """The residue of the polynomial in x whose coefficients the row has, the highest power first."""
    result = 0
    for number in row:
        result = (result * x + number) % prime
    return result


def less_root(row, x, prime):
    """The coefficients of the polynomial, divided by X - x, for a root x."""
    found = []
    last = 0
    for number in row[:-1]:
        last = (last * x + number) % prime
        found.append(last)
    return found


def times_at_end(row):
    """How many zeros the row begins with."""
    times = 0
    while row[times] == 0:
        times += 1
    return times


def factor_of(place, prime):
    """The factor of degree 1 that belongs to a root."""
    return (0, 1) if place == END else (1, -place[0] % prime)


def root_times(coefficients, prime):
    """The pairs of a root and of how often it is there, and the coefficients of the rest, which has no roots.

    The prime does not divide the content.
    """
    row = [number % prime for number in coefficients]
    found = []
    for place in places_of_roots(coefficients, prime):
        times = 0
        if place == END:
            times = times_at_end(row)
            row = row[times:]
        while value_at(row, place[0], prime) == 0 and place != END:
            row = less_root(row, place[0], prime)
            times += 1
        found.append((place, times))
    return found, row


def kind_by_roots(coefficients, prime):
    """The word for the kind of a form whose content the prime does not divide, by its factors."""
    roots, rest = root_times(coefficients, prime)
    if len(rest) > 1:
        return "none" if len(roots) == 0 else "pair"
    return ("thrice", "twice", "three")[len(roots) - 1]


def kind_of(coefficients, prime):
    """The word for the kind of the form at the prime."""
    short = tuple([number % prime for number in coefficients])
    if not any(short):
        return "all"
    if prime < 5:
        return kind_by_roots(short, prime)
    number = form_discriminant(short) % prime
    if number == 0:
        # Modulo such a prime just the third powers have the Hessian 0.
        return "twice" if any([entry % prime != 0 for entry in form_hessian(short)]) else "thrice"
    # The discriminant is a square modulo the prime exactly if the number of factors is odd.
    if power_at(number, (prime - 1) // 2, prime) != 1:
        return "pair"
    return "three" if len(places_of_roots(short, prime)) > 0 else "none"
