"""Prime ideals, and what ideals are made of."""

from formrings.above.places import END, first_bar, is_full
from formrings.above.steps import check_stepped
from formrings.base.checks import check_between, is_any_integer
from formrings.base.integers import check_prime, factored, raised
from formrings.base.lattices import index_of_plain, is_row_of_three, plain_of_three
from formrings.errors import Refused, TooMany
from formrings.form.forms import check_form
from formrings.ideal.ideals import back_of, check_ideal, plain_ideal, quotient_of
from formrings.ideal.spans import lowest, products, times_rows
from formrings.prime.residues import kind_of, root_times
from formrings.ring.rings import check_ring, table_for
from formrings.ring.triples import UNITS

MAX_LISTED_NORM = 100
MAX_NORM = 1000000
DEGREES = {"three": (1, 1, 1), "pair": (1, 2), "none": (3,), "twice": (1, 1), "thrice": (1,)}


def check_greatest(form):
    """Refuse forms with the discriminant 0, with one that is too great, and with a ring that is not greatest."""
    check_stepped(form)
    if first_bar(form.coefficients) is not None:
        raise Refused(("bar",))


def multiple_of_ring(ring, number):
    """The ring, multiplied by an integer above 0, as an ideal."""
    return plain_ideal(ring, ((number, 0, 0), (0, number, 0), (0, 0, number)), 1)


def rows_of_root(coefficients, prime, place):
    """The plain rows of the prime ideal that a root tells."""
    a, b, c, _ = coefficients
    if place == END:
        return plain_of_three(((prime, 0, 0), (-b, 1, 0), (0, 0, 1)))
    x, _ = place
    return plain_of_three(((prime, 0, 0), (a * x, 1, 0), (a * x * x + b * x + c, 0, 1)))


def primes_at(ring, prime):
    """The list of the pairs (ideal, degree) of all prime ideals over the prime, in their told sequence."""
    coefficients = ring.form.coefficients
    if is_full(coefficients, prime):
        return [(plain_ideal(ring, ((prime, 0, 0), (0, 1, 0), (0, 0, 1)), 1), 1)]
    roots, rest = root_times(coefficients, prime)
    every = multiple_of_ring(ring, prime)
    if len(roots) == 0:
        return [(every, 3)]
    told = sorted([rows_of_root(coefficients, prime, place) for place, _ in roots])
    found = [(plain_ideal(ring, rows, 1), 1) for rows in told]
    if len(rest) > 1:
        found.append((quotient_of(every, found[0][0]), 2))
    return found


def is_part_of(rows, others):
    """Whether all rows are in the lattice of the other ones, which are plain."""
    return all([is_row_of_three(others, row) for row in rows])


def times_of(table, rows, over, back):
    """How often a prime ideal is a factor of an ideal within a greatest ring, both told by their plain rows.

    What takes the prime ideal back is told by rows and a bottom.
    """
    others, bottom = back
    left = rows
    times = 0
    while is_part_of(left, over):
        left, _ = lowest(products(table, left, others), bottom)
        times += 1
    return times


def factor_pairs(ideal):
    """The list of the prime ideals that an ideal of a greatest ring is made of, each with its number of times."""
    table = table_for(ideal.ring)
    lower = times_rows(UNITS, ideal.bottom)
    found = []
    for prime, _ in factored(index_of_plain(ideal.rows) * ideal.bottom):
        for over, _ in primes_at(ideal.ring, prime):
            back = back_of(over)
            times = times_of(table, ideal.rows, over.rows, back) - times_of(table, lower, over.rows, back)
            if times != 0:
                found.append((over, times))
    return found


def is_same_pair(value, pair):
    """Whether the value is a pair of an equal ideal and the same number."""
    if not isinstance(value, tuple) or len(value) != 2 or not is_any_integer(value[1]):
        return False
    return pair[0] == value[0] and pair[1] == value[1]


def times_row(row, number):
    """The row, all its integers multiplied."""
    u, x, y = row
    return (number * u, number * x, number * y)


def less_row(row, other, times):
    """The row, less so many times another one."""
    return tuple([one - times * two for one, two in zip(row, other)])


def parts_of_index(rows, prime):
    """The plain rows of all lattices within that of three rows, with the prime as their index there."""
    first, second, third = rows
    found = [(times_row(first, prime), second, third)]
    for other in range(prime):
        found.append((less_row(first, second, other), times_row(second, prime), third))
    for one in range(prime):
        for other in range(prime):
            found.append((less_row(first, third, one), less_row(second, third, other), times_row(third, prime)))
    return [plain_of_three(part) for part in found]


def next_parts(table, rows, over, size):
    """The plain rows of all ideals within one, by which it falls into so many classes as the ring by a prime ideal."""
    product = plain_of_three(products(table, rows, over))
    if index_of_plain(product) == index_of_plain(rows) * size:
        return [product]
    # The size is a prime: as the classes are told by integers, each lattice between the two is an ideal.
    return [part for part in parts_of_index(rows, size) if is_part_of(product, part)]


def rows_with_power(ring, prime, times):
    """The plain rows of all ideals that lie in the ring, and have this power of the prime as their norm."""
    table = table_for(ring)
    told = [[UNITS]]
    for exponent in range(1, times + 1):
        found = {}
        for over, degree in primes_at(ring, prime):
            uppers = told[exponent - degree] if degree <= exponent else []
            for rows in uppers:
                for part in next_parts(table, rows, over.rows, raised(prime, degree)):
                    found[part] = True
        told.append(list(found))
    return told[times]


def rows_with_norm(ring, norm):
    """The ascending list of the plain rows of all ideals that lie in the ring and have the norm."""
    table = table_for(ring)
    found = [UNITS]
    for prime, times in factored(norm):
        # An ideal is in just one way the product of ideals whose norms are powers of unlike primes.
        parts = rows_with_power(ring, prime, times)
        found = [plain_of_three(products(table, one, other)) for one in found for other in parts]
    return sorted(found)


def ways_to_sum(size, degrees):
    """How many ways there are to write the size as a sum of the degrees, each taken some times from 0 on."""
    found = [1] + [0] * size
    for degree in degrees:
        for at in range(degree, size + 1):
            found[at] = found[at] + found[at - degree]
    return found[size]


def primes_over(ring, prime):
    """The tuple of the pairs (ideal, degree) of all prime ideals over the prime."""
    check_ring(ring)
    check_prime(prime)
    return tuple(primes_at(ring, prime))


def is_prime_ideal(ideal):
    """Whether the ideal is prime."""
    check_ideal(ideal)
    if ideal.bottom > 1:
        return False
    size = index_of_plain(ideal.rows)
    if size > MAX_NORM:
        raise TooMany(MAX_NORM)
    factors = factored(size)
    if len(factors) != 1:
        return False
    prime, times = factors[0]
    # As many classes as a prime make a field. So there is no search for the roots at great primes.
    return times == 1 or any([ideal == over for over, _ in primes_at(ideal.ring, prime)])


def factors_of(ideal):
    """The tuple of the pairs of a prime ideal, and of how often the ideal has it as a factor."""
    check_ideal(ideal)
    check_greatest(ideal.ring.form)
    if ideal.bottom > MAX_NORM or index_of_plain(ideal.rows) > MAX_NORM:
        raise TooMany(MAX_NORM)
    return tuple(factor_pairs(ideal))


def is_factors(ideal, value):
    """Whether the value is a tuple of the pairs of factors_of, in any sequence."""
    pairs = factors_of(ideal)
    if not isinstance(value, tuple) or len(value) != len(pairs):
        return False
    return all([any([is_same_pair(item, pair) for item in value]) for pair in pairs])


def ideals_of(ring, norm):
    """The tuple of all ideals that lie in the ring and have this norm."""
    check_ring(ring)
    check_between(norm, 1, MAX_LISTED_NORM)
    return tuple([plain_ideal(ring, rows, 1) for rows in rows_with_norm(ring, norm)])


def count_ideals(form, norm):
    """How many ideals that lie in the ring of the form have this norm."""
    check_form(form)
    check_between(norm, 1, MAX_NORM)
    check_greatest(form)
    result = 1
    for prime, times in factored(norm):
        result = result * ways_to_sum(times, DEGREES[kind_of(form.coefficients, prime)])
    return result
