"""Changes that lead forms with integers of any length to their least forms.

Forms and doubles are told by their coefficients here.
"""

from formrings.base.changes import IDLE, both, changes_to
from formrings.base.integers import cofactors
from formrings.form.doubles import double_discriminant, double_led, double_value
from formrings.form.forms import form_discriminant, form_hessian, form_led
from formrings.form.roots import form_roots, over_only_root, rest_of

OPPOSITE = ((-1, 0), (0, -1))
EXCHANGE = ((0, 1), (1, 0))
FIRST_BACK = ((-1, 0), (0, 1))
SECOND_BACK = ((1, 0), (0, -1))


def shift(times):
    """The change that moves x by so many times y."""
    return ((1, 0), (times, 1))


def double_step(double):
    """The next change on the way to a double (P, Q, R) with 0 <= Q <= P <= R, or None if it is such a one.

    The discriminant of the double is below 0, and its first coefficient above 0.
    """
    first, middle, last = double
    times = (first - middle) // (2 * first)
    if times != 0:
        return shift(times)
    if first > last:
        return EXCHANGE
    return SECOND_BACK if middle < 0 else None


def double_way(double):
    """A change that leads the double to one (P, Q, R) with 0 <= Q <= P <= R."""
    change, left = IDLE, double
    step = double_step(left)
    while step is not None:
        change, left = both(change, step), double_led(left, step)
        step = double_step(left)
    return change


def way_by_hessian(coefficients):
    """A change that leads a form with a discriminant above 0 to its least form."""
    start = double_way(form_hessian(coefficients))
    left = form_led(coefficients, start)
    hessian = form_hessian(left)
    best, change = left, start
    # A change that keeps a double (P, Q, R) with 0 <= Q <= P <= R has no integer greater than 1 in size.
    for step in changes_to(1):
        if double_led(hessian, step) == hessian and form_led(left, step) > best:
            best, change = form_led(left, step), both(start, step)
    return change


def is_lone_least(coefficients):
    """Whether this form with a discriminant below 0 is the least one of a class of forms without roots."""
    a, b, c, d = coefficients
    if a <= 0 or b < 0 or (b == 0 and d <= 0):
        return False
    if d * d - a * a + a * c - b * d <= 0:
        return False
    between = a * d - b * c
    return -(a - b) * (a - b) - a * c < between < (a + b) * (a + b) + a * c


def lone_step(coefficients):
    """The next change on the way of a form without roots, or None if it is least."""
    a, b, c, d = coefficients
    if is_lone_least(coefficients):
        return None
    if a < 0:
        return OPPOSITE
    # With the real root h of the form, times is the whole number nearest to -(b + a h) / (2 a).
    times = (a - b - over_only_root((b, a * c, a * a * d))) // (2 * a)
    if times != 0:
        return shift(times)
    if d * d - a * a + a * c - b * d < 0:
        return EXCHANGE
    return FIRST_BACK


def rooted_step(coefficients):
    """The next change on the way of a form (0, b, c, d) with b other than 0, or None if it is least."""
    _, b, c, _ = coefficients
    if b < 0:
        return OPPOSITE
    times = (b - c) // (2 * b)
    if times != 0:
        return shift(times)
    return SECOND_BACK if c < 0 else None


def flat_step(coefficients):
    """The next change on the way of a form (0, 0, c, d), or None if it is least."""
    _, _, c, d = coefficients
    if c < 0 or (c == 0 and d < 0):
        return OPPOSITE
    if c == 0:
        return None
    times = (c - 2 * d) // (2 * c)
    if times != 0:
        return shift(times)
    return FIRST_BACK if d < 0 else None


def low_step(coefficients):
    """The next change on the way of a form whose discriminant is not above 0, or None if it is least."""
    a, b, _, _ = coefficients
    if a != 0:
        return lone_step(coefficients)
    return rooted_step(coefficients) if b != 0 else flat_step(coefficients)


def near_double(coefficients):
    """Nearly a multiple of the double (a, b + a h, c + b h + a h h), where h is the only real root of the form."""
    a, b, c, d = coefficients
    places = 4 * max([number.bit_length() for number in coefficients])
    root = over_only_root((b << places, (a * c) << (2 * places), (a * a * d) << (3 * places)))
    # The root is near a h, moved by the places. Few of them make the way longer, and not wrong.
    first = (a * a) << (2 * places)
    middle = (a * ((b << places) + root)) << places
    return (first, middle, ((a * c) << (2 * places)) + ((b * root) << places) + root * root)


def near_way(coefficients):
    """A change that leads a form without roots near its least form."""
    if is_lone_least(coefficients):
        return IDLE
    # Steps by the form itself would find the root anew each time, which is slow for long integers.
    double = near_double(coefficients)
    return double_way(double) if double_discriminant(double) < 0 else IDLE


def end_way(root):
    """A change that leads a root to the end (1, 0)."""
    x, y = root
    i, j = cofactors(x, y)
    return ((x, y), (-j, i))


def start_way(coefficients):
    """The first change on the way of a form whose discriminant is not above 0."""
    if not any(coefficients):
        return IDLE
    roots = form_roots(coefficients)
    if len(roots) == 0:
        return near_way(coefficients)
    for x, y in roots:
        if double_value(rest_of(coefficients, (x, y)), x, y) == 0:
            return end_way((x, y))
    return end_way(roots[0])


def way_down(coefficients):
    """A change that leads the form to the least form of its class."""
    if form_discriminant(coefficients) > 0:
        return way_by_hessian(coefficients)
    change = start_way(coefficients)
    step = low_step(form_led(coefficients, change))
    while step is not None:
        change = both(change, step)
        step = low_step(form_led(coefficients, change))
    return change


def least_of(coefficients):
    """The coefficients of the least form of the class."""
    return form_led(coefficients, way_down(coefficients))


def turns_of_least(coefficients):
    """All changes that keep a least form whose discriminant is not 0."""
    # Such a change keeps the Hessian as in way_by_hessian, or the root (1, 0) of (0, b, c, d) with 0 <= c <= b.
    return [change for change in changes_to(1) if form_led(coefficients, change) == coefficients]
