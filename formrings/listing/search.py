"""The search for all least forms with a discriminant other than 0, by their coefficients.

For a form (a, b, c, d) with the discriminant D let P be b b - 3 a c, and G be 2 b b b - 9 a b c + 27 a a d, the first
coefficients of the Hessian and of the covariant: G G + 27 D a a is 4 P P P. So few of the pairs of an a and a P have
a G, and a, P and G tell the form but for a change that moves x by a multiple of y.
"""

from math import isqrt

from formrings.base.integers import whole_root
from formrings.form.roots import form_roots
from formrings.led.moves import is_lone_least, least_of


def with_end(number, most):
    """All forms (0, b, c, d) with this discriminant, where b goes from 1 to most, and c from 0 to b."""
    found = []
    for b in [side for side in range(1, most + 1) if number % (side * side) == 0]:
        inner = number // (b * b)
        for c in range(b + 1):
            if (c * c - inner) % (4 * b) == 0:
                found.append((0, b, c, (c * c - inner) // (4 * b)))
    return found


def with_start(a, first, top, most):
    """The forms (a, b, c, d) with this P and this G, where a is above 0, and b goes from 0 to most."""
    found = []
    for b in range(most + 1):
        if (b * b - first) % (3 * a) != 0:
            continue
        c = (b * b - first) // (3 * a)
        last = top - 2 * b * b * b + 9 * a * b * c
        if last % (27 * a * a) == 0:
            found.append((a, b, c, last // (27 * a * a)))
    return found


def square_pairs(number, a, low, high):
    """The pairs of a P from low to high, and of the G of at least 0 that a and P have with this discriminant."""
    rest = 27 * number * a * a
    # P is a square modulo 3.
    sides = [(first, isqrt(4 * first * first * first - rest)) for first in range(low, high + 1) if first % 3 != 2]
    return [(first, side) for first, side in sides if side * side == 4 * first * first * first - rest]


def without_roots(number):
    """The least forms without roots of a discriminant below 0."""
    found = []
    # The double (a, B, C) of the form has |B| < a < C, where B is b + a h. Let Y be a C - B B / 4, above 3 a a / 4.
    # Then P + 4 Y is a times the root of |D| / (4 Y), and so is (b - 3 B / 2) squared, plus Y. Both fall with Y.
    root = isqrt(-number // 3)
    for a in range(1, isqrt(isqrt(-16 * number // 27)) + 1):
        low = -whole_root(-27 * number * a * a // 4, 3)
        most = 3 * a // 2 + isqrt(root + 1) + 2
        for first, side in square_pairs(number, a, low, root - 3 * a * a):
            for top in (side, -side) if side > 0 else (0,):
                found.extend(with_start(a, first, top, most))
    return [form for form in found if is_lone_least(form) and len(form_roots(form)) == 0]


def above_zero(number):
    """Some forms of each class with a discriminant above 0."""
    # The Hessian (P, Q, R) of the least form has 0 <= Q <= P <= R, so P is at most the root of D. For (0, b, c, d) it
    # is the square of b. A change that takes x back takes G back, and keeps a and P.
    found = with_end(number, isqrt(isqrt(number)))
    most = isqrt(number)
    for a in range(1, isqrt(4 * most // 27) + 1):
        # The least P for which 4 P P P is at least 27 D a a.
        low = whole_root((27 * number * a * a - 1) // 4, 3) + 1
        for first, side in square_pairs(number, a, low, most):
            found.extend(with_start(a, first, side, 3 * a - 1))
    return found


def least_forms(number):
    """The ascending list of the least forms with a discriminant other than 0."""
    if number % 4 > 1:
        return []
    if number < 0:
        return sorted(with_end(number, isqrt(-number)) + without_roots(number))
    least = {least_of(form): True for form in above_zero(number)}
    return sorted(list(least))
