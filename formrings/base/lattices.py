"""Lattices of rows of two or three integers."""

from math import gcd

from formrings.base.checks import are_short_integers
from formrings.errors import InvalidOperation, Refused

MAX_ROWS = 64


def check_rows(rows):
    """Refuse what is no tuple of 1 to MAX_ROWS rows of equally many integers, two or three."""
    if not isinstance(rows, tuple) or not 1 <= len(rows) <= MAX_ROWS:
        raise InvalidOperation("the rows are not a tuple of 1 to 64")
    wide = 2 if are_short_integers(rows[0], 2) else 3
    if not all([are_short_integers(row, wide) for row in rows]):
        raise InvalidOperation("the rows are not tuples of equally many integers, two or three")


def widened(rows):
    """Rows of three integers: rows of two are made wider by a 0."""
    return rows if len(rows[0]) == 3 else [(x, y, 0) for x, y in rows]


def steps_of(rows):
    """The integers (a, b, c, d, e, f) of rows (a, b, c), (0, d, e), (0, 0, f) with the same lattice as some rows."""
    a = b = c = d = e = f = 0
    for x, y, z in rows:
        if x != 0:
            if a != 0:
                times = x // a
                x, y, z = x - times * a, y - times * b, z - times * c
            while x != 0:
                times = a // x
                a, b, c, x, y, z = x, y, z, a - times * x, b - times * y, c - times * z
        if y != 0:
            if d != 0:
                times = y // d
                y, z = y - times * d, z - times * e
            while y != 0:
                times = d // y
                d, e, y, z = y, z, d - times * y, e - times * z
            # Made small each time, here and below, so that the integers do not grow from row to row.
            times = b // d
            b, c = b - times * d, c - times * e
        if z != 0:
            f = gcd(f, z)
        if f != 0:
            c, e = c % f, e % f
    return (a, b, c, d, e, f)


def plain_of_three(rows):
    """The plain rows of the lattice of rows of three integers of any length: Refused if it has too few."""
    a, b, c, d, e, f = steps_of(rows)
    if a == 0 or d == 0 or f == 0:
        raise Refused(("rank",))
    if a < 0:
        a, b, c = -a, -b, -c
    if d < 0:
        d, e = -d, -e
    times = b // d
    return ((a, b - times * d, (c - times * e) % f), (0, d, e % f), (0, 0, f))


def plain_rows(rows):
    """The plain rows of the lattice of rows of integers of any length: Refused if it has too few."""
    if len(rows[0]) == 3:
        return plain_of_three(rows)
    # A third row that has nothing to do with the others.
    first, second, _ = plain_of_three(widened(rows) + [(0, 0, 1)])
    return (first[:2], second[:2])


def index_of_plain(plain):
    """The index of the lattice with these plain rows."""
    result = 1
    for at, step in enumerate(plain):
        result = result * step[at]
    return result


def is_row_of_three(plain, row):
    """Whether a row of three integers is in the lattice with these plain rows."""
    (a, b, c), (_, d, e), (_, _, f) = plain
    x, y, z = row
    if x % a != 0:
        return False
    times = x // a
    y, z = y - times * b, z - times * c
    return y % d == 0 and (z - y // d * e) % f == 0


def is_row_of(plain, row):
    """Whether a row is in the lattice with these plain rows."""
    if len(row) == 3:
        return is_row_of_three(plain, row)
    return is_row_of_three(widened(plain) + [(0, 0, 1)], (row[0], row[1], 0))


def least_rows(rows):
    """The plain rows of the lattice of the rows."""
    check_rows(rows)
    return plain_rows(rows)


def lattice_index(rows):
    """The index of the lattice of the rows."""
    check_rows(rows)
    return index_of_plain(plain_rows(rows))


def is_inside(rows, row):
    """Whether the row is in the lattice of the rows."""
    check_rows(rows)
    if not are_short_integers(row, len(rows[0])):
        raise InvalidOperation("the row is not a tuple of as many integers")
    return is_row_of(plain_rows(rows), row)
