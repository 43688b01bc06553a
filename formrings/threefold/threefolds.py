"""Threefolds: tuples (a, b, c, d) that stand for the forms (a, 3 b, 3 c, d)."""

from math import isqrt

from formrings.base.changes import check_change, taken_back
from formrings.base.checks import are_any_integers, are_short_integers
from formrings.double.reduced import low_below, power_of_class
from formrings.errors import InvalidDouble, InvalidOperation, Refused, TooMany
from formrings.form.doubles import Double, double_led, double_of
from formrings.form.forms import check_form, form_led, form_of
from formrings.led.moves import double_way

MAX_SIZE = 100000
MAX_FIRST = 1000


def check_threefold(value):
    """Refuse what is no threefold."""
    if not are_short_integers(value, 4):
        raise InvalidOperation("a threefold is a tuple of four integers")


def check_positive(double):
    """Refuse what is no positive primitive double, and one that is too great."""
    if not isinstance(double, Double):
        raise InvalidDouble("an object of Double is asked for")
    first, _, _ = double.coefficients
    if first <= 0 or double.discriminant >= 0 or double.content != 1:
        raise InvalidOperation("the double is not positive and primitive")
    if double.discriminant < -MAX_SIZE:
        raise TooMany(MAX_SIZE)
    if first > MAX_FIRST:
        raise TooMany(MAX_FIRST)


def hessian_of(threefold):
    """The coefficients of the small Hessian."""
    a, b, c, d = threefold
    return (b * b - a * c, b * c - a * d, c * c - b * d)


def spread(threefold):
    """The coefficients of the form for which the threefold stands."""
    a, b, c, d = threefold
    return (a, 3 * b, 3 * c, d)


def led_by(threefold, change):
    """The threefold to which a change leads, with integers of any length."""
    a, b, c, d = form_led(spread(threefold), change)
    return (a, b // 3, c // 3, d)


def with_start(double, a, b):
    """The threefold with this small Hessian that begins with a and b, or None."""
    first, middle, last = double
    if (middle * b - last * a) % first != 0:
        return None
    c = (middle * b - last * a) // first
    if (middle * c - last * b) % first != 0:
        return None
    return (a, b, c, (middle * c - last * b) // first)


def threefolds_with(double):
    """All threefolds with this small Hessian, whose first coefficient is above 0 and discriminant below 0."""
    first, middle, last = double
    number = middle * middle - 4 * first * last
    found = []
    # A b b - B a b + C a a is A A, so (2 A b - B a) squared is 4 A A A less a a times the size of the discriminant.
    most = isqrt(4 * first * first * first // -number)
    for a in range(-most, most + 1):
        inner = 4 * first * first * first + number * a * a
        side = isqrt(inner)
        if side * side != inner:
            continue
        for top in (middle * a + side, middle * a - side):
            threefold = with_start(double, a, top // (2 * first)) if top % (2 * first) == 0 else None
            if threefold is not None and threefold not in found:
                found.append(threefold)
    return found


def all_threefolds(double):
    """The ascending list of all threefolds whose small Hessian is the positive double with these coefficients."""
    # The search is short for a reduced double.
    change = double_way(double)
    back = taken_back(change)
    return sorted([led_by(threefold, back) for threefold in threefolds_with(double_led(double, change))])


def cube_of(double):
    """The coefficients of the least double of the class, taken three times."""
    first, middle, _ = double.coefficients
    # The only reduced double of a class is its least one, as the discriminant is below 0.
    return power_of_class(double.discriminant, low_below(double.discriminant, first, middle), 3)


def small_hessian(threefold):
    """The small Hessian of a threefold."""
    check_threefold(threefold)
    return double_of(hessian_of(threefold))


def form_of_threefold(threefold):
    """The form (a, 3 b, 3 c, d)."""
    check_threefold(threefold)
    return form_of(spread(threefold))


def threefold_of_form(form):
    """The threefold of a form whose middle coefficients 3 divides."""
    check_form(form)
    a, b, c, d = form.coefficients
    if b % 3 != 0 or c % 3 != 0:
        raise Refused(("middle",))
    return (a, b // 3, c // 3, d)


def threefold_led(threefold, change):
    """The threefold to whose form the change leads that of a threefold."""
    check_threefold(threefold)
    check_change(change)
    return led_by(threefold, change)


def threefolds_of(double):
    """The ascending tuple of all threefolds with this small Hessian."""
    check_positive(double)
    return tuple(all_threefolds(double.coefficients))


def third_paper(double):
    """What shows whether there is a threefold with this small Hessian."""
    check_positive(double)
    found = all_threefolds(double.coefficients)
    if len(found) > 0:
        return ("threefold", found[0])
    return ("cube", double_of(cube_of(double)))


def is_third_paper(double, value):
    """Whether the value shows whether there is a threefold with this small Hessian."""
    check_positive(double)
    if not isinstance(value, tuple) or len(value) != 2:
        return False
    word, told = value
    if word == "threefold":
        return are_any_integers(told, 4) and hessian_of(told) == double.coefficients
    if word != "cube" or not isinstance(told, Double):
        return False
    return len(all_threefolds(double.coefficients)) == 0 and told.coefficients == cube_of(double)
