"""Boxes: pairs of tables, and the pairs of ideals from which they come."""

from formrings.base.changes import check_change, determinant_of
from formrings.base.lattices import index_of_plain
from formrings.box.tables import (
    divided_table, exchanged_table, facing_table, form_of_tables, is_even_table, is_short_table,
    product_of_tables, row_times, sum_of_tables, table_text, times_table)
from formrings.errors import InvalidBox, InvalidOperation, Refused
from formrings.form.forms import form_of
from formrings.ideal.ideals import Ideal, check_ideals, ideal_of
from formrings.ring.rings import Ring, table_for
from formrings.ring.triples import determinant_by, product_by

NO_TABLE = ((0, 0, 0), (0, 0, 0), (0, 0, 0))
# Not all values of a form of degree three in three unknowns are 0 here, unless it is the form 0.
STARTS = (0, 1, -1, 2)


def check_even(value):
    """Refuse what is no even table."""
    if not is_even_table(value):
        raise InvalidOperation("a table with the determinant 1 or -1 is asked for")


def box_with(first, second):
    """The box with these tables, whose integers can have any length."""
    box = Box(NO_TABLE, NO_TABLE)
    box._first = first
    box._second = second
    return box


class Box:
    """A box: a pair of tables A and B. It never changes."""

    def __init__(self, first, second):
        if not is_short_table(first) or not is_short_table(second):
            raise InvalidBox("a box has two tables of three rows of three integers")
        self._first = first
        self._second = second

    @property
    def first(self):
        """The table A."""
        return self._first

    @property
    def second(self):
        """The table B."""
        return self._second

    @property
    def form(self):
        """The determinant of A x - B y."""
        return form_of(form_of_tables(self._first, self._second))

    def row_actions(self):
        """The tables by which w and t act on the rows."""
        by_w = product_of_tables(self._second, facing_table(self._first))
        by_t = product_of_tables(self._first, facing_table(self._second))
        return (times_table(by_w, -1), times_table(by_t, -1))

    def column_actions(self):
        """The tables by which w and t act on the columns."""
        by_w = product_of_tables(facing_table(self._first), self._second)
        by_t = product_of_tables(facing_table(self._second), self._first)
        return (times_table(by_w, -1), times_table(by_t, -1))

    def moved(self, rows, columns):
        """The box with both tables multiplied by an even table from the left, and by one from the right."""
        check_even(rows)
        check_even(columns)
        first, second = moved_tables(self._first, self._second, rows, columns)
        return box_with(first, second)

    def turned(self, change):
        """The box to which the change turns this one."""
        check_change(change)
        (p, q), (r, s) = change
        e = determinant_of(change)
        first = sum_of_tables(times_table(self._first, e * p), times_table(self._second, -e * q))
        second = sum_of_tables(times_table(self._second, e * s), times_table(self._first, -e * r))
        return box_with(first, second)

    def exchanged(self):
        """The box with rows and columns of both tables exchanged."""
        return box_with(exchanged_table(self._first), exchanged_table(self._second))

    def __eq__(self, other):
        return isinstance(other, Box) and self._first == other._first and self._second == other._second

    def __str__(self):
        return f"{table_text(self._first)} and {table_text(self._second)}"


def moved_tables(first, second, rows, columns):
    """The two tables, each multiplied by one from the left, and by one from the right."""
    return [product_of_tables(product_of_tables(rows, table), columns) for table in (first, second)]


def check_moved(box):
    """Refuse what is no box, and one whose form has the discriminant 0."""
    if not isinstance(box, Box):
        raise InvalidBox("an object of Box is asked for")
    if box.form.discriminant == 0:
        raise Refused(("zero",))


def grid_of(one, other):
    """The triples of the products of the rows of two ideals of one ring, above both bottoms."""
    table = table_for(one.ring)
    return [[product_by(table, row, other_row) for other_row in other.rows] for row in one.rows]


def tables_from(one, other):
    """The two tables of two ideals of one ring, or None if their product is not within the ring."""
    bottom = one.bottom * other.bottom
    grid = grid_of(one, other)
    if any([entry % bottom != 0 for line in grid for triple in line for entry in triple]):
        return None
    return [tuple([tuple([triple[at] // bottom for triple in line]) for line in grid]) for at in (2, 1)]


def have_norm_one(one, other):
    """Whether the norms of two ideals multiply to 1."""
    bottom = one.bottom * other.bottom
    return index_of_plain(one.rows) * index_of_plain(other.rows) == bottom * bottom * bottom


def start_rows(actions):
    """A row, and where w and t act on it, so that the three make up all rows over fractions."""
    by_w, by_t = actions
    for x in STARTS:
        for y in STARTS:
            for z in STARTS:
                rows = ((x, y, z), row_times((x, y, z), by_w), row_times((x, y, z), by_t))
                if determinant_by(rows) != 0:
                    return rows
    # There is one, unless the discriminant of the form is 0.
    raise Refused(("zero",))


def is_balanced(one, other):
    """Whether two ideals of one ring are balanced."""
    check_ideals(one, other)
    return have_norm_one(one, other) and tables_from(one, other) is not None


def box_of(one, other):
    """The box of two ideals of one ring."""
    check_ideals(one, other)
    tables = tables_from(one, other)
    if tables is None:
        raise Refused(("outside",))
    return box_with(tables[0], tables[1])


def pair_of(box):
    """Balanced ideals, and two even tables that lead the box to that of the ideals."""
    check_moved(box)
    ring = Ring(box.form)
    rows = start_rows(box.row_actions())
    # The start stands for 1, so the first ideal has the fractions as which w and t lead the start to the three rows.
    size = determinant_by(rows)
    one = ideal_of(ring, facing_table(rows), abs(size))
    left = product_of_tables(one.rows, rows)
    # The products with 1 are the elements of the second ideal: A and B tell their t and w, and that of w times them
    # is u + b w, which tells their integers u.
    ends, middles = row_times(rows[0], box.first), row_times(rows[0], box.second)
    by_w = row_times(rows[1], box.second)
    units = tuple([moved - ring.form[1] * middle for moved, middle in zip(by_w, middles)])
    members = exchanged_table((units, middles, ends))
    other = ideal_of(ring, members, 1)
    right = exchanged_table(product_of_tables(other.rows, facing_table(members)))
    under = determinant_by(members)
    return (one, other, divided_table(left, one.bottom), divided_table(right, under))


def is_pair_of(box, value):
    """Whether the value is a tuple of balanced ideals and of even tables that lead the box to that of the ideals."""
    check_moved(box)
    if not isinstance(value, tuple) or len(value) != 4:
        return False
    one, other, rows, columns = value
    if not isinstance(one, Ideal) or not isinstance(other, Ideal):
        return False
    if one.ring.form != box.form or other.ring.form != box.form or not have_norm_one(one, other):
        return False
    if not is_even_table(rows) or not is_even_table(columns):
        return False
    return tables_from(one, other) == moved_tables(box.first, box.second, rows, columns)
