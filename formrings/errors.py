"""The errors of the package."""


class RingError(ValueError):
    """A value is not of the kind that is asked for."""


class InvalidForm(RingError):
    """Something is no form."""


class InvalidChange(RingError):
    """Something is no change."""


class InvalidDouble(RingError):
    """Something is no double."""


class InvalidRing(RingError):
    """Something is no ring, or tells none."""


class InvalidElement(RingError):
    """Something is no element, or one of another ring."""


class InvalidIdeal(RingError):
    """Something is no ideal, or one of another ring."""


class InvalidBox(RingError):
    """Something is no box."""


class InvalidOperation(RingError):
    """Something cannot be done with these values."""


class ParseError(RingError):
    """A text cannot be read."""

    def __init__(self, spot):
        self.spot = spot


class InvalidNumber(IndexError):
    """Something is no integer, or one beyond its bounds."""

    def __init__(self, given):
        self.given = given


class UnknownName(KeyError):
    """A name stands for nothing."""

    def __init__(self, wanted):
        self.wanted = wanted


class TooMany(OverflowError):
    """There is more than can be done."""

    def __init__(self, most):
        self.most = most


class Refused(ArithmeticError):
    """The values are of the right kinds, but what is asked cannot be had."""

    def __init__(self, reason):
        self.reason = reason


class NothingToUndo(LookupError):
    """There are fewer steps than are to be taken back."""

    def __init__(self, steps):
        self.steps = steps
