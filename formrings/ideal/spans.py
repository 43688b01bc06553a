"""Reckoning with lattices of triples of a ring, each told by rows of any length and a bottom."""

from formrings.base.integers import shared_divisor
from formrings.base.lattices import index_of_plain, is_row_of, plain_rows
from formrings.ring.triples import UNITS, map_by, product_by, trace_by


def lowest(rows, bottom):
    """The plain rows of some rows over a bottom, and the bottom, in lowest terms."""
    plain = plain_rows(rows)
    shared = shared_divisor([bottom] + [shared_divisor(row) for row in plain])
    return (tuple([tuple([number // shared for number in row]) for row in plain]), bottom // shared)


def is_kept(table, plain):
    """Whether the lattice of plain rows has the products of its rows with w and t."""
    _, w, t = UNITS
    for row in plain:
        if not is_row_of(plain, product_by(table, row, w)) or not is_row_of(plain, product_by(table, row, t)):
            return False
    return True


def products(table, rows, others):
    """All products of the rows with the others."""
    return [product_by(table, row, other) for row in rows for other in others]


def times_rows(rows, number):
    """The rows, all their integers multiplied."""
    return [tuple([number * entry for entry in row]) for row in rows]


def crossed(first, second):
    """The row that has the sum 0 with both rows, as below."""
    a, b, c = first
    d, e, f = second
    return (b * f - c * e, c * d - a * f, a * e - b * d)


def facing(rows):
    """The rows and the bottom of all triples that have a whole sum with each of the rows.

    The sum of two triples is that of the products of their members at equal places.
    """
    plain = plain_rows(rows)
    first, second, third = plain
    return ([crossed(second, third), crossed(third, first), crossed(first, second)], index_of_plain(plain))


def sum_with(row, other):
    """The sum of the products of the members of two triples."""
    return sum([one * two for one, two in zip(row, other)])


def maps_into(table, plain, others):
    """The rows and the bottom of all triples whose products with the others are in the lattice of plain rows."""
    # A triple is in this lattice exactly if it has whole sums with the rows of back, divided by the bottom.
    back, bottom = facing(plain)
    asked = []
    for other in others:
        moved = map_by(table, other)
        for row in back:
            asked.append(tuple([sum_with(image, row) for image in moved]))
    found, under = facing(asked)
    return (times_rows(found, bottom), under)


def traced(table, rows):
    """The rows and the bottom of all triples whose products with the rows have integers as their traces."""
    return facing([tuple([trace_by(table, image) for image in map_by(table, row)]) for row in rows])
