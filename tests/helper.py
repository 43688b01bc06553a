"""What several tests use: forms, wrong values, sources of numbers, and checks of errors."""

import random

from formrings.box.boxes import Box
from formrings.form.doubles import Double
from formrings.form.forms import Form
from formrings.ideal.ideals import whole
from formrings.ring.rings import Ring
from formrings.shelf.shelf import Shelf

CUBIC, ROUND, PLAIN, ROOT = Form((1, 1, 2, 1)), Form((1, 2, -1, -1)), Form((0, 1, 1, 0)), Form((1, 0, 0, -2))
NOTHING = Form((0, 0, 0, 0))
IDLE = ((1, 0), (0, 1))

LONG = 10 ** 60
LONGEST = LONG - 1


def nested(depth):
    """A tuple that is nested so deep."""
    value = ()
    for _ in range(depth):
        value = (value,)
    return value


OBJECTS = (
    CUBIC, Double((1, 0, 1)), Ring(CUBIC), Ring(CUBIC).w(), whole(Ring(CUBIC)), Box(((1, 2, 3),) * 3, ((0, 1, 0),) * 3),
    Shelf())
NO_INTEGERS = (
    None, True, False, "", "1", "a\tb\n", (), (1,), (1, 2), [], [1], {}, {1: 2}, ((1, 2), (3, 4)),
    LONG, -LONG, 10 ** 99, -10 ** 99,
) + OBJECTS
NO_PRIMES = (0, 1, -2, -3, 4, 9, 91, 9999, 10000, 10007, 10 ** 6 + 3, LONG - 1) + NO_INTEGERS
NO_TUPLES = (
    None, True, False, 0, 1, -1, LONG, "", "(1, 0)", "a" * 4000, [], [1, 0], {}, {1: 0}, [[1, 0], [0, 1]],
) + OBJECTS
NO_CHANGES = NO_TUPLES + (
    (), (1, 0), (1, 0, 0, 1), ((1, 0),), ((1, 0), (0, 1), (0, 0)), ((1, 0), (0,)), ((1, 0, 0), (0, 1, 0)),
    ((1, 1), (1, 1)), ((2, 0), (0, 1)), ((0, 0), (0, 0)), ((1, 0), [0, 1]), [(1, 0), (0, 1)], ([1, 0], (0, 1)),
    ((True, 0), (0, 1)), ((1, False), (0, 1)), ((1, 0), (0, True)), ((1, None), (0, 1)), (("1", 0), (0, 1)),
    (((1,), 0), (0, 1)), ((1, 0), None), (None, (0, 1)), ("10", "01"), {(1, 0): (0, 1)}, nested(8), IDLE + IDLE,
)
LONG_CHANGES = (((1, LONG), (0, 1)), ((-LONG, 1), (1, 0)))


def no_rows(many):
    """Values that are no tuples of so many integers."""
    row = tuple(range(1, many + 1))
    wrong = [NO_TUPLES, ((), row[:-1], row + (0,), list(row), (row,), row + (None,), tuple(str(row)), nested(8))]
    for at in range(many):
        wrong.append([row[:at] + (value,) + row[at + 1:] for value in NO_INTEGERS])
    return [value for values in wrong for value in values]


def no_objects(kind):
    """Values that are no objects of the class."""
    return [value for value in NO_INTEGERS + NO_TUPLES + ((1, 1, 2, 1), "(1, 1, 2, 1)") if not isinstance(value, kind)]


def numbers(seed):
    """A source of numbers that gives the same ones in each run."""
    return random.Random(seed)


def rows_of(seed, many, length, size):
    """So many rows of integers of at most this size."""
    source = numbers(seed)
    return [tuple(source.randint(-size, size) for _ in range(length)) for _ in range(many)]


def determinant(change):
    return change[0][0] * change[1][1] - change[0][1] * change[1][0]


def some_changes(seed, many):
    """Changes of both determinants with small and great integers."""
    source = numbers(seed)
    found = []
    for _ in range(many):
        (p, q), (r, s) = IDLE
        for _ in range(source.randint(1, 6)):
            k = source.randint(-5, 5)
            (p, q), (r, s) = source.choice((
                ((p + k * r, q + k * s), (r, s)), ((p, q), (r + k * p, s + k * q)), ((r, s), (p, q)),
                ((-p, -q), (r, s))))
        found.append(((p, q), (r, s)))
    return found


def product_form(root, double):
    """The form y X - x Y, multiplied by a double in X and Y, for a root (x, y)."""
    (x, y), (a, b, c) = root, double
    return Form((y * a, y * b - x * a, y * c - x * b, -x * c))


class Refusals:
    """Checks of errors, beside unittest.TestCase."""

    def refuses(self, error, kept, call, *arguments):
        """The call raises just this error, which keeps this value (a dict from its name to it)."""
        with self.assertRaises(error) as caught:
            call(*arguments)
        self.assertIs(type(caught.exception), error)
        for name, value in kept.items():
            self.assertEqual(repr(getattr(caught.exception, name)), repr(value))

    def refuses_number(self, error, given, call, *arguments):
        """The call raises InvalidNumber with just this value."""
        with self.assertRaises(error) as caught:
            call(*arguments)
        self.assertIs(type(caught.exception), error)
        self.assertIs(caught.exception.given, given)

    def keeps(self, value, names):
        """None of these properties can be assigned, and each is told by the class itself."""
        for name in names:
            self.assertIn(name, vars(type(value)))
            with self.assertRaises(AttributeError):
                setattr(value, name, getattr(value, name))

    def is_not_iterated(self, value):
        """The object is not iterated over."""
        for call in (iter, list, tuple, set, sorted):
            with self.assertRaises(TypeError):
                call(value)
        with self.assertRaises(TypeError):
            for _ in value:
                pass
