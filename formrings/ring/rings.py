"""Rings of forms, and their elements."""

from formrings.base.checks import are_any_integers, are_short_integers, check_between, check_integer
from formrings.base.integers import fraction, shared_divisor
from formrings.errors import InvalidElement, InvalidNumber, InvalidOperation, InvalidRing, Refused
from formrings.form.forms import check_form, form_of, form_value
from formrings.ring.triples import (
    UNITS, broken_bracket, polynomial_by, power_by, product_by, table_of, trace_by)

MAX_POWER = 100


def check_bottom(bottom):
    """Refuse what is no integer other than 0."""
    check_integer(bottom)
    if bottom == 0:
        raise InvalidNumber(bottom)


def table_for(ring):
    """The table of products of the ring."""
    return table_of(ring.form.coefficients)


class Ring:
    """The ring of a form. It never changes."""

    def __init__(self, form):
        check_form(form)
        self._form = form

    @property
    def form(self):
        """The form that tells the ring."""
        return self._form

    @property
    def discriminant(self):
        """The discriminant of the form."""
        return self._form.discriminant

    def one(self):
        """The element 1."""
        return Element(self, UNITS[0], 1)

    def w(self):
        """The element w."""
        return Element(self, UNITS[1], 1)

    def t(self):
        """The element t."""
        return Element(self, UNITS[2], 1)

    def element(self, entries, bottom=1):
        """The element (u + x w + y t) / bottom, where the entries are (u, x, y)."""
        if not are_short_integers(entries, 3):
            raise InvalidElement("an element has a tuple of three integers")
        check_bottom(bottom)
        return Element(self, entries, bottom)

    def __eq__(self, other):
        return isinstance(other, Ring) and self._form == other._form

    def __str__(self):
        return f"ring of {self._form}"


def check_ring(value):
    """Refuse what is no ring."""
    if not isinstance(value, Ring):
        raise InvalidRing("an object of Ring is asked for")


def check_one_ring(first, second):
    """Refuse two elements of unequal rings."""
    if first.ring != second.ring:
        raise InvalidOperation("the elements are of two rings")


def mixed(first, second, sign):
    """The sum of two elements, or, with the sign -1, their difference."""
    top, bottom = sign * first.bottom, second.bottom
    entries = tuple([one * bottom + other * top for one, other in zip(first.entries, second.entries)])
    return Element(first.ring, entries, first.bottom * second.bottom)


def term(number, name):
    """The text of an integer other than 0 times a name, without the sign."""
    size = abs(number)
    if size == 1 and name != "":
        return name
    return f"{size}{name}"


def sum_text(entries):
    """The text of u + x w + y t."""
    words = []
    for number, name in zip(entries, ("", "w", "t")):
        if number < 0:
            words.append("-")
        elif number > 0 and len(words) > 0:
            words.append("+")
        if number != 0:
            words.append(term(number, name))
    return "".join(words) if len(words) > 0 else "0"


class Element:
    """An element of a ring, divided by an integer. It never changes.

    Callers make elements by rings and by operators: here nothing is checked, and the integers can have any length.
    """

    def __init__(self, ring, entries, bottom):
        shared = shared_divisor((shared_divisor(entries), bottom))
        if bottom < 0:
            shared = -shared
        self._ring = ring
        self._entries = tuple([number // shared for number in entries])
        self._bottom = bottom // shared

    @property
    def ring(self):
        """The ring of the element."""
        return self._ring

    @property
    def entries(self):
        """The integers ahead of 1, w and t, above the bottom."""
        return self._entries

    @property
    def bottom(self):
        """The least integer above 0 that makes the element whole."""
        return self._bottom

    @property
    def trace(self):
        """The trace, a fraction."""
        return fraction(trace_by(table_for(self._ring), self._entries), self._bottom)

    @property
    def norm(self):
        """The norm, a fraction."""
        r, s, v = polynomial_by(table_for(self._ring), self._entries)
        return fraction(-v, self._bottom ** 3)

    @property
    def polynomial(self):
        """The fractions r, s and v of X X X + r X X + s X + v."""
        r, s, v = polynomial_by(table_for(self._ring), self._entries)
        return (fraction(r, self._bottom), fraction(s, self._bottom ** 2), fraction(v, self._bottom ** 3))

    @property
    def is_whole(self):
        """Whether the element is in the ring."""
        return self._bottom == 1

    def __add__(self, other):
        if not isinstance(other, Element):
            return NotImplemented
        check_one_ring(self, other)
        return mixed(self, other, 1)

    def __sub__(self, other):
        if not isinstance(other, Element):
            return NotImplemented
        check_one_ring(self, other)
        return mixed(self, other, -1)

    def __mul__(self, other):
        if not isinstance(other, Element):
            return NotImplemented
        check_one_ring(self, other)
        entries = product_by(table_for(self._ring), self._entries, other._entries)
        return Element(self._ring, entries, self._bottom * other._bottom)

    def __neg__(self):
        return Element(self._ring, tuple([-number for number in self._entries]), self._bottom)

    def scaled(self, top, bottom=1):
        """The element, multiplied by a fraction."""
        check_integer(top)
        check_bottom(bottom)
        return Element(self._ring, tuple([number * top for number in self._entries]), self._bottom * bottom)

    def inverse(self):
        """The element whose product with this one is 1."""
        table = table_for(self._ring)
        r, s, v = polynomial_by(table, self._entries)
        if v == 0:
            raise Refused(("norm",))
        # z z z + r z z + s z + v is 0, so z (z z + r z + s) is -v.
        u, x, y = self._entries
        i, j, k = product_by(table, self._entries, self._entries)
        cofactor = (i + r * u + s, j + r * x, k + r * y)
        return Element(self._ring, tuple([number * self._bottom for number in cofactor]), -v)

    def power(self, many):
        """The power with an exponent from -MAX_POWER to MAX_POWER."""
        check_between(many, -MAX_POWER, MAX_POWER)
        base = self.inverse() if many < 0 else self
        # Brought to lowest terms once, at the end: that is what costs time.
        entries = power_by(table_for(base._ring), base._entries, abs(many))
        bottom = 1
        for _ in range(abs(many)):
            bottom = bottom * base._bottom
        return Element(self._ring, entries, bottom)

    def __bool__(self):
        return any(self._entries)

    def __eq__(self, other):
        if not isinstance(other, Element) or self._ring != other._ring:
            return False
        return self._entries == other._entries and self._bottom == other._bottom

    def __str__(self):
        words = sum_text(self._entries)
        if self._bottom == 1:
            return str(words)
        return f"({words})/{self._bottom}"


def index_of(element):
    """The index of the part that a whole element makes, or 0 if this does not span."""
    if not isinstance(element, Element):
        raise InvalidElement("an index is that of an element")
    if not element.is_whole:
        raise InvalidOperation("an index is that of a whole element")
    _, x, y = element.entries
    return abs(form_value(element.ring.form.coefficients, x, y))


def trace_table(ring):
    """The table of the traces of the products of 1, w and t."""
    check_ring(ring)
    table = table_for(ring)
    return tuple([tuple([trace_by(table, product_by(table, one, other)) for other in UNITS]) for one in UNITS])


def is_table(value):
    """Whether the value is a triple of triples of integers of any length."""
    if not isinstance(value, tuple) or len(value) != 3:
        return False
    return all([are_any_integers(row, 3) for row in value])


def ring_by_table(products):
    """The pair of the ring of a right table and of the shifts of w and t."""
    if not is_table(products) or not all([are_short_integers(row, 3) for row in products]):
        raise InvalidRing("a table of products is a triple of triples of integers")
    broken = broken_bracket(products)
    if broken is not None:
        raise Refused(("bracket", broken))
    (_, x, y), (_, k, m), (_, i, j) = products
    # With w - m and t - k in the place of w and t, w t is an integer.
    return (Ring(form_of((-y, x - 2 * m, 2 * k - j, i))), (m, k))


def is_right_table(value):
    """Whether the value is a right table of products, with integers of any length."""
    return is_table(value) and broken_bracket(value) is None
