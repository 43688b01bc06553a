"""The search for all least forms with a discriminant other than 0, by their coefficients.

For a form (a, b, c, d) with the discriminant D let P be b b - 3 a c, and G be 2 b b b - 9 a b c + 27 a a d, the first
coefficients of the Hessian and of the covariant: G G + 27 D a a is 4 P P P. So P, D and a tell G but for the sign.
"""

from math import isqrt

from formrings.base.integers import whole_root
from formrings.form.forms import form_discriminant, form_hessian
from formrings.form.roots import form_roots
from formrings.led.moves import is_lone_least, least_of


def signed_roots(number):
    """The integers whose square is the number."""
    if number < 0:
        return []
    root = isqrt(number)
    if root * root != number:
        return []
    return [root, -root] if root > 0 else [0]


def with_end(number):
    """The least forms (0, b, c, d), with b above 0, of a discriminant below 0."""
    found = []
    for b in range(1, isqrt(-number) + 1):
        if number % (b * b) != 0:
            continue
        inner = number // (b * b)
        for c in range(b + 1):
            if (c * c - inner) % (4 * b) == 0:
                found.append((0, b, c, (c * c - inner) // (4 * b)))
    return found


def greatest_third(number, a, b):
    """No form without roots that is least, and begins with a and b, has a third coefficient above this one."""
    # The double (a, B, C) of the form has |B| <= a <= C. With M = C - B B / (4 a) the size of the discriminant is at
    # least 4 a M M M, and c is M + b b / (4 a) - b h / 2 - 3 a h h / 4, greatest in h at -b / (3 a) or at the border.
    middle = whole_root(-number // (4 * a), 3) + 1
    if 3 * a >= 2 * b:
        return middle + b * b // (3 * a) + 1
    return middle + b


def lone_ends(number, a, b, c):
    """The integers d for which (a, b, c, d) has the discriminant."""
    inner = b * b - 3 * a * c
    square = 27 * a * a
    found = []
    for top in signed_roots(4 * inner * inner * inner - square * number):
        if (top - 2 * b * b * b + 9 * a * b * c) % square == 0:
            found.append((top - 2 * b * b * b + 9 * a * b * c) // square)
    return found


def without_roots(number):
    """The least forms without roots of a discriminant below 0."""
    found = []
    # With B = b + a h as above, the size of the discriminant is at least 27 a a a a / 16, and at least
    # 3 a a (a h h + B h + C) squared; so (b - 3 B / 2) squared is at most its third's root, less 3 a a / 4.
    most = isqrt(isqrt(-16 * number // 27))
    for a in range(1, most + 1):
        for b in range(3 * a // 2 + isqrt(isqrt(-number // 3) + 1) + 3):
            for c in range(1 - b, greatest_third(number, a, b) + 1):
                for d in lone_ends(number, a, b, c):
                    if is_lone_least((a, b, c, d)) and len(form_roots((a, b, c, d))) == 0:
                        found.append((a, b, c, d))
    return found


def low_hessians(number):
    """The doubles (P, Q, R) with 0 <= Q <= P <= R whose discriminant is -3 times this one above 0."""
    found = []
    for first in range(1, isqrt(number) + 1):
        for middle in range(first + 1):
            quarter = 3 * number + middle * middle
            if quarter % (4 * first) == 0 and quarter // (4 * first) >= first:
                found.append((first, middle, quarter // (4 * first)))
    return found


def with_first(hessian, a, top):
    """The form with a first coefficient other than 0, by its Hessian and G; None where it is not of integers."""
    first, middle, _ = hessian
    if (3 * a * middle + top) % (2 * first) != 0:
        return None
    b = (3 * a * middle + top) // (2 * first)
    if (b * b - first) % (3 * a) != 0:
        return None
    c = (b * b - first) // (3 * a)
    if (b * c - middle) % (9 * a) != 0:
        return None
    return (a, b, c, (b * c - middle) // (9 * a))


def with_no_first(hessian):
    """The forms (0, b, c, d) that have this Hessian."""
    first, middle, last = hessian
    found = []
    for b in signed_roots(first):
        c = middle // b
        if b * c == middle and (c * c - last) % (3 * b) == 0:
            found.append((0, b, c, (c * c - last) // (3 * b)))
    return found


def forms_by_hessian(number, hessian):
    """All forms that have the discriminant above 0 and this Hessian."""
    cube = 4 * hessian[0] * hessian[0] * hessian[0]
    found = with_no_first(hessian)
    most = isqrt(cube // (27 * number))
    for a in [size for size in range(-most, most + 1) if size != 0]:
        for top in signed_roots(cube - 27 * number * a * a):
            form = with_first(hessian, a, top)
            if form is not None and form_hessian(form) == hessian:
                found.append(form)
    return [form for form in found if form_discriminant(form) == number]


def least_by_hessians(number):
    """The least forms of a discriminant above 0."""
    found = []
    for hessian in low_hessians(number):
        for form in forms_by_hessian(number, hessian):
            if least_of(form) == form:
                found.append(form)
    return found


def least_forms(number):
    """The ascending list of the least forms with a discriminant other than 0."""
    if number > 0:
        return sorted(least_by_hessians(number))
    return sorted(with_end(number) + without_roots(number))
