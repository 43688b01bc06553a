"""Reckoning with tables: tuples of three rows of three integers of any length."""

from formrings.base.checks import are_short_integers
from formrings.ring.triples import determinant_by


def is_short_table(value):
    """Whether the value is a table, with integers of at most sixty digits."""
    return isinstance(value, tuple) and len(value) == 3 and all([are_short_integers(row, 3) for row in value])


def is_even_table(value):
    """Whether the value is an even table, with integers of at most sixty digits."""
    return is_short_table(value) and determinant_by(value) in (1, -1)


def times_table(table, number):
    """The table, all its integers multiplied."""
    (a, b, c), (d, e, f), (g, h, i) = table
    return (
        (number * a, number * b, number * c),
        (number * d, number * e, number * f),
        (number * g, number * h, number * i),
    )


def divided_table(table, number):
    """The table, all its integers divided by one that divides them."""
    return tuple([tuple([entry // number for entry in row]) for row in table])


def sum_of_tables(first, second):
    """The table of the sums."""
    return tuple([tuple([one + two for one, two in zip(row, other)]) for row, other in zip(first, second)])


def row_times(row, table):
    """The row, multiplied by the table."""
    x, y, z = row
    (a, b, c), (d, e, f), (g, h, i) = table
    return (x * a + y * d + z * g, x * b + y * e + z * h, x * c + y * f + z * i)


def product_of_tables(first, second):
    """The product, rows by columns."""
    one, two, three = first
    return (row_times(one, second), row_times(two, second), row_times(three, second))


def exchanged_table(table):
    """The table with rows and columns exchanged."""
    (a, b, c), (d, e, f), (g, h, i) = table
    return ((a, d, g), (b, e, h), (c, f, i))


def facing_table(table):
    """The table whose product with this one, either way, is the determinant on the diagonal."""
    (a, b, c), (d, e, f), (g, h, i) = table
    return (
        (e * i - f * h, c * h - b * i, b * f - c * e),
        (f * g - d * i, a * i - c * g, c * d - a * f),
        (d * h - e * g, b * g - a * h, a * e - b * d),
    )


def trace_of_product(first, second):
    """The sum of the diagonal of the product."""
    (a, b, c), (d, e, f), (g, h, i) = first
    (j, k, m), (n, o, p), (q, r, s) = second
    return a * j + b * n + c * q + d * k + e * o + f * r + g * m + h * p + i * s


def form_of_tables(first, second):
    """The coefficients of the determinant of A x - B y."""
    return (
        determinant_by(first),
        -trace_of_product(facing_table(first), second),
        trace_of_product(first, facing_table(second)),
        -determinant_by(second),
    )


def table_text(table):
    """The text of a table."""
    return "/".join([" ".join([str(number) for number in row]) for row in table])
