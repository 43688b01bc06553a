import math
import unittest

from formrings.base.changes import joined, undone
from formrings.errors import InvalidChange, InvalidDouble, InvalidNumber
from formrings.form.doubles import Double
from formrings.form.forms import Form
from tests.helper import (
    IDLE, LONG, LONG_CHANGES, LONGEST, NO_CHANGES, NO_INTEGERS, OBJECTS, Refusals, no_rows, numbers, rows_of,
    some_changes)

ROWS = rows_of(21, 30, 3, 9) + rows_of(22, 10, 3, LONGEST) + [(0, 0, 0), (0, 0, 4), (2, 4, 2), (LONGEST,) * 3]


class Examples(unittest.TestCase):
    def test_the_line(self):
        self.assertEqual([Double((1, 0, 2))(3, -1), str(Double((1, 0, 2)).led(((0, 1), (1, 1))))], [11, "(2, 4, 3)"])


class Doubles(Refusals, unittest.TestCase):
    """[2.1]"""

    def test_properties(self):
        for first, middle, last in ROWS:
            double = Double((first, middle, last))
            self.assertEqual(double.coefficients, (first, middle, last))
            self.assertEqual(double.discriminant, middle ** 2 - 4 * first * last)
            self.assertEqual(double.content, math.gcd(first, middle, last))
            self.assertEqual(str(double), str((first, middle, last)))
        self.keeps(double, ("coefficients", "discriminant", "content"))

    def test_contents(self):
        self.assertEqual([Double(row).content for row in ((0, 0, 0), (0, -4, 0), (-6, 9, 12), (1, 0, 0))], [0, 4, 3, 1])

    def test_texts(self):
        self.assertEqual([str(Double((1, 0, -2))), str(Double((0, 0, 0)))], ["(1, 0, -2)", "(0, 0, 0)"])

    def test_values(self):
        source = numbers(23)
        for first, middle, last in ROWS:
            for size in (5, LONGEST):
                x, y = source.randint(-size, size), source.randint(-size, size)
                self.assertEqual(Double((first, middle, last))(x, y), first * x * x + middle * x * y + last * y * y)

    def test_opposites_and_equality(self):
        double = Double((1, 0, -2))
        self.assertEqual((-double).coefficients, (-1, 0, 2))
        self.assertTrue(-double == Double((-1, 0, 2)) and -(-double) == double)
        self.assertIs(double == Double((1, 0, -2)), True)
        self.assertIs(double != Double((1, 0, -2)), False)
        for value in ((1, 0, -2), "(1, 0, -2)", [1, 0, -2], None, True, 1, {}, Double((1, 0, 2)), Form((1, 0, -2, 0))):
            self.assertIs(double == value, False)
            self.assertIs(double != value, True)
            self.assertIs(value == double, False)

    def test_the_methods_are_its_own(self):
        for name in ("__call__", "led", "__neg__", "__eq__", "__str__"):
            self.assertIn(name, vars(Double))

    def test_is_not_iterated(self):
        self.is_not_iterated(Double((1, 0, 2)))

    def test_wrong_coefficients(self):
        for value in no_rows(3):
            self.refuses(InvalidDouble, {}, Double, value)
        self.assertEqual(Double((LONGEST, -LONGEST, 0)).coefficients, (LONGEST, -LONGEST, 0))

    def test_wrong_integers(self):
        double = Double((1, 0, 2))
        for value in NO_INTEGERS:
            self.refuses_number(InvalidNumber, value, double, value, 1)
            self.refuses_number(InvalidNumber, value, double, 1, value)
            self.refuses_number(InvalidNumber, value, double, value, "2")

    def test_operands_of_another_kind(self):
        double = Double((1, 0, 2))
        for value in (double, 1, None, (1,), "1") + OBJECTS:
            with self.assertRaises(TypeError):
                double + value
            with self.assertRaises(TypeError):
                double * value
        with self.assertRaises(TypeError):
            double[0]


class Led(Refusals, unittest.TestCase):
    """[2.2]"""

    def test_values_and_what_stays(self):
        source = numbers(24)
        for row in ROWS:
            for change in some_changes(25, 6):
                (p, q), (r, s) = change
                double = Double(row)
                led = double.led(change)
                x, y = source.randint(-9, 9), source.randint(-9, 9)
                self.assertEqual(led(x, y), double(p * x + r * y, q * x + s * y))
                self.assertEqual((led.discriminant, led.content), (double.discriminant, double.content))

    def test_one_by_one_joined_and_back(self):
        for row in ROWS:
            for one, other in zip(some_changes(26, 6), some_changes(27, 6)):
                double = Double(row)
                self.assertEqual(double.led(one).led(other), double.led(joined(one, other)))
                self.assertEqual(double.led(one).led(undone(one)), double)
        self.assertEqual(double.led(IDLE), double)

    def test_longer_ones_can_be_passed_on(self):
        double = Double((LONGEST, LONGEST, LONGEST)).led(((1, LONGEST), (0, 1)))
        self.assertGreater(double.coefficients[0], LONG ** 2)
        self.assertEqual(double.led(((1, -LONGEST), (0, 1))).coefficients, (LONGEST, LONGEST, LONGEST))
        self.assertEqual((-double).coefficients[0], -double.coefficients[0])

    def test_wrong_changes(self):
        for value in NO_CHANGES + LONG_CHANGES:
            self.refuses(InvalidChange, {}, Double((1, 0, 2)).led, value)


if __name__ == "__main__":
    unittest.main()
