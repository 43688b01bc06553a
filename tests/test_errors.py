import unittest

from formrings import errors

BASES = {
    "RingError": ValueError,
    "InvalidForm": errors.RingError,
    "InvalidChange": errors.RingError,
    "InvalidDouble": errors.RingError,
    "InvalidRing": errors.RingError,
    "InvalidElement": errors.RingError,
    "InvalidIdeal": errors.RingError,
    "InvalidBox": errors.RingError,
    "InvalidOperation": errors.RingError,
    "ParseError": errors.RingError,
    "InvalidNumber": IndexError,
    "UnknownName": KeyError,
    "TooMany": OverflowError,
    "Refused": ArithmeticError,
    "NothingToUndo": LookupError,
}
KEPT = {
    "ParseError": ("spot", (0, 2, None)),
    "InvalidNumber": ("given", (3, -1, None, "3", True, 10 ** 70, (1, 2), [1])),
    "UnknownName": ("wanted", ("a", 3, ("alike", "a", "b"))),
    "TooMany": ("most", (20, 100000)),
    "Refused": ("reason", (("rank",), ("rest", 2))),
    "NothingToUndo": ("steps", (1, 7)),
}


class ErrorClasses(unittest.TestCase):
    """[0.21]"""

    def test_each_has_its_only_base_class(self):
        for name, base in BASES.items():
            with self.subTest(name):
                self.assertEqual(getattr(errors, name).__bases__, (base,))

    def test_there_are_no_others(self):
        found = {name for name, value in vars(errors).items() if isinstance(value, type)}
        self.assertEqual(found, set(BASES))

    def test_each_is_defined_in_its_module(self):
        for name in BASES:
            self.assertEqual(getattr(errors, name).__module__, "formrings.errors")

    def test_each_keeps_what_its_call_shows(self):
        for name, (attribute, values) in KEPT.items():
            for value in values:
                with self.subTest(name, value=value):
                    error = getattr(errors, name)(value)
                    self.assertIs(getattr(error, attribute), value)
                    self.assertEqual(error.args, (value,))

    def test_each_keeps_it_when_raised(self):
        for name, (attribute, values) in KEPT.items():
            with self.assertRaises(getattr(errors, name)) as caught:
                raise getattr(errors, name)(values[0])
            self.assertEqual(getattr(caught.exception, attribute), values[0])

    def test_the_others_are_made_with_a_text(self):
        for name in BASES:
            if name not in KEPT:
                self.assertEqual(str(getattr(errors, name)("a text")), "a text")

    def test_the_example(self):
        self.assertEqual(errors.InvalidNumber(3).given, 3)
        self.assertEqual(repr(errors.Refused(("rank",))), "Refused(('rank',))")


if __name__ == "__main__":
    unittest.main()
