"""Reckoning with triples (u, x, y), which stand for u + x w + y t, by a table of products of w and t.

A table is the triple of the triples of w w, w t and t t.
"""

UNITS = ((1, 0, 0), (0, 1, 0), (0, 0, 1))


def table_of(coefficients):
    """The table of products of the ring of the form with these coefficients."""
    a, b, c, d = coefficients
    return ((-a * c, b, -a), (-a * d, 0, 0), (-b * d, d, -c))


def product_by(table, first, second):
    """The product of two triples."""
    (a, b, c), (d, e, f), (g, h, i) = table
    u, x, y = first
    v, z, s = second
    # How often w w, w t and t t stand in the product.
    left, middle, right = x * z, x * s + y * z, y * s
    return (
        u * v + left * a + middle * d + right * g,
        u * z + x * v + left * b + middle * e + right * h,
        u * s + y * v + left * c + middle * f + right * i,
    )


def power_by(table, entries, many):
    """The power of a triple with an exponent of at least 0."""
    result = UNITS[0]
    for _ in range(many):
        result = product_by(table, result, entries)
    return result


def determinant_by(rows):
    """The determinant of three rows of three integers."""
    (a, b, c), (d, e, f), (g, h, i) = rows
    return a * (e * i - f * h) - b * (d * i - f * g) + c * (d * h - e * g)


def map_by(table, entries):
    """The rows of the products of a triple with 1, w and t."""
    (a, b, c), (d, e, f), (g, h, i) = table
    u, x, y = entries
    return [
        entries,
        (x * a + y * d, u + x * b + y * e, x * c + y * f),
        (x * d + y * g, x * e + y * h, u + x * f + y * i),
    ]


def trace_by(table, entries):
    """The trace of a triple."""
    rows = map_by(table, entries)
    return rows[0][0] + rows[1][1] + rows[2][2]


def polynomial_by(table, entries):
    """The integers (r, s, v) of the polynomial X X X + r X X + s X + v of a triple."""
    (a, b, c), (d, e, f), (g, h, i) = map_by(table, entries)
    minors = a * e - b * d + a * i - c * g + e * i - f * h
    return (-(a + e + i), minors, -determinant_by(((a, b, c), (d, e, f), (g, h, i))))


def broken_bracket(table):
    """The letter of the first rule of brackets that the table breaks, or None if it is right."""
    _, w, t = UNITS
    square, between, last = table
    if product_by(table, square, t) != product_by(table, w, between):
        return "w"
    if product_by(table, between, t) != product_by(table, w, last):
        return "t"
    return None
