"""How many rings lie within a ring with told indices."""

from formrings.above.places import is_barred_at, places_of_roots
from formrings.base.checks import are_short_integers, check_between
from formrings.base.integers import check_prime, factored
from formrings.errors import InvalidOperation, TooMany
from formrings.form.forms import check_form, form_discriminant, form_of

MAX_TABLED = 200
MAX_COUNTED = 10000
MAX_SERIES = 60


def is_table_of_index(value):
    """Whether the value is a table of some index."""
    if not isinstance(value, tuple) or len(value) != 2:
        return False
    if not all([are_short_integers(row, 2) for row in value]):
        return False
    (u, v), (zero, s) = value
    return u >= 1 and zero == 0 and 0 <= v < s


def moved_by(coefficients, table):
    """The coefficients of f(u x, v x + s y) for a table ((u, v), (0, s))."""
    a, b, c, d = coefficients
    (u, v), (_, s) = table
    first = a * u * u * u + b * u * u * v + c * u * v * v + d * v * v * v
    second = (b * u * u + 2 * c * u * v + 3 * d * v * v) * s
    return (first, second, (c * u + 3 * d * v) * s * s, d * s * s * s)


def goes(coefficients, table):
    """Whether the table goes for the form."""
    number = table[0][0] * table[1][1]
    return all([moved % number == 0 for moved in moved_by(coefficients, table)])


def by_table(coefficients, table):
    """The coefficients of the form by a table that goes for the form."""
    number = table[0][0] * table[1][1]
    return tuple([moved // number for moved in moved_by(coefficients, table)])


def tables_of(coefficients, number):
    """The ascending list of all tables with this index that go for the form."""
    found = []
    for u in range(1, number + 1):
        if number % u != 0:
            continue
        for v in range(number // u):
            if goes(coefficients, ((u, v), (0, number // u))):
                found.append(((u, v), (0, number // u)))
    return found


def top_of_series(coefficients, prime):
    """The coefficients of N at 1, X, X X and X X X."""
    many = len(places_of_roots(coefficients, prime))
    if many == 0:
        return [1, 0, 0, 1]
    if many == 1:
        return [1, 1, 0, 0] if form_discriminant(coefficients) % prime == 0 else [1, 1, 1, 1]
    return [1, 2, 1, 0] if many == 2 else [1, 3, 3, 1]


def first_numbers(coefficients, prime, many):
    """The first numbers of rings within with the powers of the prime as their indices."""
    found = (top_of_series(coefficients, prime) + [0] * many)[:many]
    # Each loop divides by one factor of the bottom: by 1 - X X, and by 1 - p X X X.
    for at in range(2, many):
        found[at] = found[at] + found[at - 2]
    for at in range(3, many):
        found[at] = found[at] + prime * found[at - 3]
    return found


def tables_below(form, number):
    """The ascending tuple of all tables with this index that go for the form."""
    check_form(form)
    check_between(number, 1, MAX_TABLED)
    return tuple(tables_of(form.coefficients, number))


def form_below(form, table):
    """The form by the table."""
    check_form(form)
    if not is_table_of_index(table) or not goes(form.coefficients, table):
        raise InvalidOperation("the table is none that goes for the form")
    return form_of(by_table(form.coefficients, table))


def count_below(form, number):
    """How many rings within have this index."""
    check_form(form)
    check_between(number, 1, MAX_COUNTED)
    if number <= MAX_TABLED:
        return len(tables_of(form.coefficients, number))
    result = 1
    for prime, times in factored(number):
        if is_barred_at(form.coefficients, prime):
            raise TooMany(MAX_TABLED)
        result = result * first_numbers(form.coefficients, prime, times + 1)[times]
    return result


def series(form, prime, many):
    """The first numbers of rings within with the indices 1, the prime, its square, and so on."""
    check_form(form)
    check_prime(prime)
    check_between(many, 1, MAX_SERIES)
    if is_barred_at(form.coefficients, prime):
        raise InvalidOperation("the prime divides the content, or there is a heavy root")
    return tuple(first_numbers(form.coefficients, prime, many))
