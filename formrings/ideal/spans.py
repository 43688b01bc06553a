"""Reckoning with lattices of triples of a ring, each told by rows of any length and a bottom."""

from formrings.base.integers import shared_divisor
from formrings.base.lattices import index_of_plain, is_row_of_three, plain_of_three
from formrings.ring.triples import map_by, trace_by


def lowest(rows, bottom):
    """The plain rows of some rows over a bottom, and the bottom, in lowest terms."""
    plain = plain_of_three(rows)
    if bottom == 1:
        return (plain, 1)
    shared = shared_divisor([bottom] + [shared_divisor(row) for row in plain])
    return (tuple([tuple([number // shared for number in row]) for row in plain]), bottom // shared)


def is_kept(table, plain):
    """Whether the lattice of plain rows has the products of its rows with w and t."""
    for row in plain:
        _, by_w, by_t = map_by(table, row)
        if not is_row_of_three(plain, by_w) or not is_row_of_three(plain, by_t):
            return False
    return True


def products(table, rows, others):
    """All products of the rows with the others."""
    found = []
    for row in rows:
        (a, b, c), (d, e, f), (g, h, i) = map_by(table, row)
        found.extend([(u * a + x * d + y * g, u * b + x * e + y * h, u * c + x * f + y * i) for u, x, y in others])
    return found


def times_rows(rows, number):
    """The rows, all their integers multiplied."""
    return [(number * u, number * x, number * y) for u, x, y in rows]


def facing(plain):
    """The rows and the bottom of all triples that have a whole sum with each of these plain rows.

    The sum of two triples is that of the products of their members at equal places.
    """
    (a, b, c), (_, d, e), (_, _, f) = plain
    return (((d * f, 0, 0), (-b * f, a * f, 0), (b * e - c * d, -a * e, a * d)), index_of_plain(plain))


def maps_into(table, plain, others):
    """The rows and the bottom of all triples whose products with the others are in the lattice of plain rows."""
    # A triple is in this lattice exactly if it has whole sums with the rows of back, divided by the bottom.
    ((a, _, _), (b, c, _), (d, e, f)), bottom = facing(plain)
    asked = []
    for other in others:
        (g, h, i), (j, k, m), (n, o, p) = map_by(table, other)
        asked.append((a * g, a * j, a * n))
        asked.append((b * g + c * h, b * j + c * k, b * n + c * o))
        asked.append((d * g + e * h + f * i, d * j + e * k + f * m, d * n + e * o + f * p))
    found, under = facing(plain_of_three(asked))
    return (times_rows(found, bottom), under)


def traced(table, rows):
    """The rows and the bottom of all triples whose products with the rows have integers as their traces."""
    asked = [tuple([trace_by(table, image) for image in map_by(table, row)]) for row in rows]
    return facing(plain_of_three(asked))
