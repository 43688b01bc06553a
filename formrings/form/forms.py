"""Forms of degree three."""

from formrings.base.changes import check_change, determinant_of
from formrings.base.checks import are_short_integers, check_between, check_integer, is_written_integer
from formrings.base.integers import shared_divisor
from formrings.errors import InvalidForm, InvalidNumber, InvalidOperation, ParseError, Refused
from formrings.form.doubles import double_of
from formrings.form.roots import form_roots, plain_root, rest_of


def form_value(coefficients, x, y):
    """The value of the form with these coefficients."""
    a, b, c, d = coefficients
    return a * x * x * x + b * x * x * y + c * x * y * y + d * y * y * y


def form_discriminant(coefficients):
    """The discriminant of the form with these coefficients."""
    a, b, c, d = coefficients
    return b * b * c * c - 4 * a * c * c * c - 4 * b * b * b * d - 27 * a * a * d * d + 18 * a * b * c * d


def form_hessian(coefficients):
    """The coefficients of the Hessian of the form with these coefficients."""
    a, b, c, d = coefficients
    return (b * b - 3 * a * c, b * c - 9 * a * d, c * c - 3 * b * d)


def form_covariant(coefficients):
    """The coefficients of the covariant of the form with these coefficients."""
    a, b, c, d = coefficients
    return (
        2 * b * b * b - 9 * a * b * c + 27 * a * a * d,
        3 * b * b * c - 18 * a * c * c + 27 * a * b * d,
        -3 * b * c * c + 18 * b * b * d - 27 * a * c * d,
        -2 * c * c * c + 9 * b * c * d - 27 * a * d * d,
    )


def form_led(coefficients, change):
    """The coefficients of the form to which the change leads that with these coefficients."""
    a, b, c, d = coefficients
    (p, q), (r, s) = change
    e = determinant_of(change)
    second = 3 * a * p * p * r + b * p * (p * s + 2 * q * r) + c * q * (2 * p * s + q * r) + 3 * d * q * q * s
    third = 3 * a * p * r * r + b * r * (2 * p * s + q * r) + c * s * (p * s + 2 * q * r) + 3 * d * q * s * s
    return (e * form_value(coefficients, p, q), e * second, e * third, e * form_value(coefficients, r, s))


def is_root_of(coefficients, value):
    """Whether the value is a root of the form with these coefficients."""
    if not are_short_integers(value, 2) or value == (0, 0):
        return False
    x, y = value
    return value == plain_root(x, y) and form_value(coefficients, x, y) == 0


def check_form(value):
    """Refuse what is no form."""
    if not isinstance(value, Form):
        raise InvalidForm("an object of Form is asked for")


def form_of(coefficients):
    """The form with these four integers, which can have any length."""
    form = Form((0, 0, 0, 0))
    form._coefficients = coefficients
    return form


class Form:
    """A form a x x x + b x x y + c x y y + d y y y. It never changes."""

    def __init__(self, coefficients):
        if not are_short_integers(coefficients, 4):
            raise InvalidForm("a form has a tuple of four integers")
        self._coefficients = tuple(coefficients)

    @classmethod
    def read(cls, text):
        """The form whose text this is."""
        if not isinstance(text, str) or not text.startswith("(") or not text.endswith(")"):
            raise ParseError(0)
        words = text[1:-1].split(", ")
        if len(words) != 4 or not all([is_written_integer(word) for word in words]):
            raise ParseError(0)
        return cls(tuple([int(word) for word in words]))

    @property
    def coefficients(self):
        """The integers a, b, c and d."""
        return self._coefficients

    @property
    def discriminant(self):
        """The discriminant, which stays when a change leads the form."""
        return form_discriminant(self._coefficients)

    @property
    def content(self):
        """The greatest common divisor of the coefficients."""
        return shared_divisor(self._coefficients)

    @property
    def hessian(self):
        """The Hessian, a double."""
        return double_of(form_hessian(self._coefficients))

    @property
    def covariant(self):
        """The covariant, a form."""
        return form_of(form_covariant(self._coefficients))

    def __call__(self, x, y):
        check_integer(x)
        check_integer(y)
        return form_value(self._coefficients, x, y)

    def led(self, change):
        """The form to which the change leads this one."""
        check_change(change)
        return form_of(form_led(self._coefficients, change))

    def times(self, number):
        """The form with all coefficients multiplied."""
        check_integer(number)
        return form_of(tuple([coefficient * number for coefficient in self._coefficients]))

    def divided(self, number):
        """The form with all coefficients divided."""
        check_integer(number)
        if number == 0:
            raise InvalidNumber(number)
        if not all([coefficient % number == 0 for coefficient in self._coefficients]):
            raise Refused(("rest", number))
        return form_of(tuple([coefficient // number for coefficient in self._coefficients]))

    def roots(self):
        """The ascending tuple of all roots."""
        if not any(self._coefficients):
            raise InvalidOperation("the form 0 has no told roots")
        return form_roots(self._coefficients)

    def rest(self, root):
        """The double that is left of the form at a root."""
        if not any(self._coefficients):
            raise InvalidOperation("the form 0 has no rests")
        if not is_root_of(self._coefficients, root):
            raise InvalidOperation("this is no root of the form")
        return double_of(rest_of(self._coefficients, root))

    def __neg__(self):
        return form_of(tuple([-number for number in self._coefficients]))

    def __getitem__(self, at):
        check_between(at, 0, 3)
        return self._coefficients[at]

    def __iter__(self):
        raise TypeError("a form is not iterated over")

    def __bool__(self):
        return any(self._coefficients)

    def __eq__(self, other):
        return isinstance(other, Form) and self._coefficients == other._coefficients

    def __str__(self):
        return str(self._coefficients)
