"""What several tests use: wrong values, and a way to look at errors."""

import random

LONG = 10 ** 60
LONGEST = LONG - 1
NO_INTEGERS = (
    None, True, False, "", "1", "a\tb\n", (), (1,), (1, 2), [], [1], {}, {1: 2}, ((1, 2), (3, 4)),
    LONG, -LONG, 10 ** 99, -10 ** 99,
)
NO_TUPLES = (None, True, False, 0, 1, -1, LONG, "", "(1, 0)", "a" * 4000, [], [1, 0], {}, {1: 0}, [[1, 0], [0, 1]])


def numbers(seed):
    """A source of numbers that gives the same ones in each run."""
    return random.Random(seed)


def nested(depth):
    """A tuple that is nested so deep."""
    value = ()
    for _ in range(depth):
        value = (value,)
    return value


class Refusals:
    """Checks of errors, beside unittest.TestCase."""

    def refuses(self, error, kept, call, *arguments):
        """The call raises just this error, which keeps this value (a dict from its name to it)."""
        with self.assertRaises(error) as caught:
            call(*arguments)
        self.assertIs(type(caught.exception), error)
        for name, value in kept.items():
            self.assertEqual(repr(getattr(caught.exception, name)), repr(value))

    def refuses_number(self, error, given, call, *arguments):
        """The call raises InvalidNumber with just this value."""
        with self.assertRaises(error) as caught:
            call(*arguments)
        self.assertIs(type(caught.exception), error)
        self.assertIs(caught.exception.given, given)
