"""The roots of forms of degree three, by integers alone.

Nothing is factored here, since coefficients can be too great for it: the integer roots of a cubic are found by
halving, in each of the parts in which its values only rise or only fall.
"""

from math import gcd, isqrt

from formrings.form.doubles import double_discriminant


def plain_root(x, y):
    """The root on the line of (x, y), which is not (0, 0)."""
    shared = gcd(x, y)
    if y < 0 or (y == 0 and x < 0):
        shared = -shared
    return (x // shared, y // shared)


def double_roots(coefficients):
    """The roots of the double with these coefficients, not all 0; an equal one can stand there twice."""
    first, middle, last = coefficients
    if first == 0:
        return [(1, 0), plain_root(-last, middle)]
    inner = double_discriminant(coefficients)
    if inner < 0:
        return []
    side = isqrt(inner)
    if side * side != inner:
        return []
    return [plain_root(-middle - side, 2 * first), plain_root(-middle + side, 2 * first)]


def cubic_value(tail, z):
    """The value of z z z + i z z + j z + k, where the tail is (i, j, k)."""
    i, j, k = tail
    return ((z + i) * z + j) * z + k


def cubic_span(tail):
    """An integer that is greater than all real roots of the cubic in size."""
    i, j, k = tail
    # No root is greater than twice the greatest of i, the square root of j and the cube root of k, all in size.
    return 2 << max(i.bit_length(), j.bit_length() // 2 + 1, k.bit_length() // 3 + 1)


def cubic_parts(tail):
    """Parts from low to high that have all integer roots, with 1 where the cubic rises, and -1 where it falls."""
    i, j, _ = tail
    span = cubic_span(tail)
    inner = i * i - 3 * j
    if inner <= 0:
        return [(-span, span, 1)]
    under = isqrt(inner)
    # Between top and top + 1, and between dip and dip + 1, or at one of them, the cubic turns.
    top = (-i - under - 1) // 3
    dip = (-i + under) // 3
    return [(-span, top, 1), (top + 1, dip, -1), (dip + 1, span, 1)]


def reached(tail, low, high, way):
    """The least integer from low to high where the cubic, times the way, is at least 0; high if there is none."""
    while low < high:
        middle = (low + high) // 2
        if way * cubic_value(tail, middle) >= 0:
            high = middle
        else:
            low = middle + 1
    return low


def over_only_root(tail):
    """The least integer that is not below the only real root of the cubic."""
    # There is no other root, so the values are at least 0 just from this one on, wherever the cubic falls.
    span = cubic_span(tail)
    return reached(tail, -span, span, 1)


def cubic_root(tail):
    """An integer root of the cubic, or None."""
    for low, high, way in cubic_parts(tail):
        place = reached(tail, low, high, way)
        if cubic_value(tail, place) == 0:
            return place
    return None


def some_root(coefficients):
    """A root of the form with these coefficients, not all 0, or None."""
    a, b, c, d = coefficients
    if a == 0:
        return (1, 0)
    # With z = a x the form at (x, 1), multiplied by a a, is a cubic whose first coefficient is 1.
    place = cubic_root((b, a * c, a * a * d))
    return None if place is None else plain_root(place, a)


def rest_of(coefficients, root):
    """The coefficients of the double that y X - x Y is multiplied by, for a root (x, y) of the form."""
    a, b, c, d = coefficients
    x, y = root
    if y == 0:
        return (-b, -c, -d)
    first = a // y
    middle = (b + x * first) // y
    return (first, middle, (c + x * middle) // y)


def form_roots(coefficients):
    """The ascending tuple of all roots of the form with these coefficients, not all 0."""
    first = some_root(coefficients)
    if first is None:
        return ()
    found = [first]
    for root in double_roots(rest_of(coefficients, first)):
        if root not in found:
            found.append(root)
    return tuple(sorted(found))
