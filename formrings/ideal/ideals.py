"""Ideals of rings: products, sums, quotients and duals."""

from math import lcm

from formrings.base.checks import are_short_integers, is_short_integer
from formrings.base.integers import fraction
from formrings.base.lattices import index_of_plain, is_row_of
from formrings.errors import InvalidElement, InvalidIdeal, InvalidNumber, Refused
from formrings.ideal.spans import is_kept, lowest, maps_into, products, times_rows, traced
from formrings.ring.rings import Element, check_ring, table_for
from formrings.ring.triples import UNITS, determinant_by

MAX_ELEMENTS = 16


def check_entries(rows):
    """Refuse what is no tuple of three tuples of three integers."""
    if not isinstance(rows, tuple) or len(rows) != 3 or not all([are_short_integers(row, 3) for row in rows]):
        raise InvalidIdeal("the rows are not a tuple of three tuples of three integers")


def check_under(bottom):
    """Refuse what is no integer of at least 1."""
    if not is_short_integer(bottom) or bottom < 1:
        raise InvalidNumber(bottom)


def check_ideal(value):
    """Refuse what is no ideal."""
    if not isinstance(value, Ideal):
        raise InvalidIdeal("an object of Ideal is asked for")


def check_ideals(one, other):
    """Refuse what are no two ideals of one ring."""
    check_ideal(one)
    check_ideal(other)
    check_one_ring(one, other)


def check_one_ring(one, other):
    """Refuse ideals of two rings."""
    if one.ring != other.ring:
        raise InvalidIdeal("the ideals are of two rings")


def is_element_of(ring, value):
    """Whether the value is an element of the ring, over any bottom."""
    return isinstance(value, Element) and value.ring == ring


def ratio_text(ratio):
    """The text of a fraction, also of an integer."""
    top, bottom = ratio
    return f"{top}/{bottom}"


def plain_ideal(ring, plain, bottom):
    """The ideal with plain rows of any length over a bottom, in lowest terms. They are known to tell one."""
    ideal = Ideal(ring, UNITS)
    ideal._rows = plain
    ideal._bottom = bottom
    return ideal


def ideal_of(ring, rows, bottom):
    """The ideal that rows of any length tell, over a bottom above 0. The rows are known to tell one."""
    plain, under = lowest(rows, bottom)
    return plain_ideal(ring, plain, under)


class Ideal:
    """An ideal of a ring. It never changes."""

    def __init__(self, ring, rows, bottom=1):
        check_ring(ring)
        check_entries(rows)
        check_under(bottom)
        if determinant_by(rows) == 0:
            raise InvalidIdeal("the determinant of the rows is 0")
        found, under = lowest(rows, bottom)
        # The ring itself is an ideal.
        if found != UNITS and not is_kept(table_for(ring), found):
            raise InvalidIdeal("a product with w or t is missing")
        self._ring = ring
        self._rows = found
        self._bottom = under

    @property
    def ring(self):
        """The ring of the ideal."""
        return self._ring

    @property
    def rows(self):
        """The plain rows above the bottom."""
        return self._rows

    @property
    def bottom(self):
        """The least integer above 0 that makes all of the ideal whole."""
        return self._bottom

    @property
    def norm(self):
        """The index of the lattice of the rows over the bottom, a fraction."""
        return fraction(index_of_plain(self._rows), self._bottom ** 3)

    def __mul__(self, other):
        if not isinstance(other, Ideal):
            return NotImplemented
        check_one_ring(self, other)
        rows = products(table_for(self._ring), self._rows, other._rows)
        return ideal_of(self._ring, rows, self._bottom * other._bottom)

    def __add__(self, other):
        if not isinstance(other, Ideal):
            return NotImplemented
        check_one_ring(self, other)
        rows = times_rows(self._rows, other._bottom) + times_rows(other._rows, self._bottom)
        return ideal_of(self._ring, rows, self._bottom * other._bottom)

    def stretched(self, element):
        """The ideal of all products with an element."""
        if not is_element_of(self._ring, element) or element.norm == (0, 1):
            raise InvalidElement("an element of the ring with a norm other than 0 is asked for")
        rows = products(table_for(self._ring), self._rows, [element.entries])
        return ideal_of(self._ring, rows, self._bottom * element.bottom)

    def __contains__(self, value):
        if not is_element_of(self._ring, value):
            return False
        if self._bottom % value.bottom != 0:
            return False
        times = self._bottom // value.bottom
        return is_row_of(self._rows, tuple([times * entry for entry in value.entries]))

    def __eq__(self, other):
        if not isinstance(other, Ideal) or self._ring != other._ring:
            return False
        return self._rows == other._rows and self._bottom == other._bottom

    def __str__(self):
        return f"ideal of norm {ratio_text(self.norm)}"


def whole(ring):
    """The ring as an ideal."""
    check_ring(ring)
    return ideal_of(ring, UNITS, 1)


def made_by(ring, members):
    """The least ideal that has these elements."""
    check_ring(ring)
    if not isinstance(members, tuple) or not 1 <= len(members) <= MAX_ELEMENTS:
        raise InvalidElement("a tuple of 1 to 16 elements is asked for")
    if not all([is_element_of(ring, member) for member in members]):
        raise InvalidElement("one of the members is no element of the ring")
    bottom = 1
    for member in members:
        bottom = lcm(bottom, member.bottom)
    table = table_for(ring)
    rows = []
    for member in members:
        rows = rows + times_rows(products(table, [member.entries], UNITS), bottom // member.bottom)
    return ideal_of(ring, rows, bottom)


def quotient_of(one, other):
    """The ideal of all that leads the other ideal of one ring into the first one."""
    rows, bottom = maps_into(table_for(one.ring), one.rows, other.rows)
    return ideal_of(one.ring, times_rows(rows, other.bottom), bottom * one.bottom)


def quotient(one, other):
    """The ideal (one : other)."""
    check_ideals(one, other)
    return quotient_of(one, other)


def dual(ideal):
    """The ideal of all whose products with this one have integers as their traces."""
    check_ideal(ideal)
    if ideal.ring.discriminant == 0:
        raise Refused(("discriminant",))
    rows, bottom = traced(table_for(ideal.ring), ideal.rows)
    return ideal_of(ideal.ring, times_rows(rows, ideal.bottom), bottom)


def back_of(ideal):
    """The rows and the bottom of (R : I) for an ideal I of a ring R, in lowest terms."""
    rows, bottom = maps_into(table_for(ideal.ring), UNITS, ideal.rows)
    return lowest(times_rows(rows, ideal.bottom), bottom)


def is_undone_by(ideal, back):
    """Whether the product of an ideal with these rows over a bottom is the ring."""
    rows, bottom = back
    return lowest(products(table_for(ideal.ring), ideal.rows, rows), ideal.bottom * bottom) == (UNITS, 1)


def is_undone(ideal):
    """Whether a product of the ideal with another one is the ring."""
    check_ideal(ideal)
    return is_undone_by(ideal, back_of(ideal))


def inverse_of(ideal):
    """The ideal that undoes this one."""
    check_ideal(ideal)
    rows, bottom = back_of(ideal)
    if not is_undone_by(ideal, (rows, bottom)):
        raise Refused(("undone",))
    return plain_ideal(ideal.ring, rows, bottom)
