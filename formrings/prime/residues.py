"""Reckoning modulo primes: factors of forms, and kinds."""

from formrings.above.places import END, is_full, places_of_roots


def value_at(row, x, prime):
    """The residue of the polynomial in x whose coefficients the row has, the highest power first."""
    result = 0
    for number in row:
        result = (result * x + number) % prime
    return result


def less_root(row, x, prime):
    """The coefficients of the polynomial, divided by X - x, for a root x."""
    found = []
    last = 0
    for number in row[:-1]:
        last = (last * x + number) % prime
        found.append(last)
    return found


def times_at_end(row):
    """How many zeros the row begins with."""
    times = 0
    while row[times] == 0:
        times += 1
    return times


def factor_of(place, prime):
    """The factor of degree 1 that belongs to a root."""
    return (0, 1) if place == END else (1, -place[0] % prime)


def root_times(coefficients, prime):
    """The pairs of a root and of how often it is there, and the coefficients of the rest, which has no roots.

    The prime does not divide the content.
    """
    row = [number % prime for number in coefficients]
    found = []
    for place in places_of_roots(coefficients, prime):
        times = 0
        if place == END:
            times = times_at_end(row)
            row = row[times:]
        while value_at(row, place[0], prime) == 0 and place != END:
            row = less_root(row, place[0], prime)
            times += 1
        found.append((place, times))
    return found, row


def kind_of(coefficients, prime):
    """The word for the kind of the form at the prime."""
    if is_full(coefficients, prime):
        return "all"
    roots, rest = root_times(coefficients, prime)
    if len(rest) > 1:
        return "none" if len(roots) == 0 else "pair"
    return ("thrice", "twice", "three")[len(roots) - 1]
