import math
import unittest
from fractions import Fraction

from formrings.errors import InvalidNumber, InvalidOperation, Refused
from formrings.form.forms import Form
from formrings.ring.rings import Element, Ring, index_of
from tests.helper import (
    CUBIC, LONG, LONGEST, NO_INTEGERS, NOTHING, OBJECTS, PLAIN, ROOT, ROUND, Refusals, numbers, rows_of)

FORMS = [Form(row) for row in rows_of(61, 25, 4, 7) + rows_of(62, 4, 4, LONGEST)] + [CUBIC, ROUND, PLAIN, ROOT, NOTHING]


def some_elements(seed, form, many, size=6):
    """Elements of the ring of the form with several bottoms."""
    source = numbers(seed)
    ring = Ring(form)
    return [ring.element(tuple(source.randint(-size, size) for _ in range(3)), source.choice((1, 1, -2, 3, 6, -size)))
            for _ in range(many)]


def exact(element):
    """The three fractions of an element."""
    return [Fraction(number, element.bottom) for number in element.entries]


def number(form, value):
    """The element of the ring of the form that is this integer."""
    return Ring(form).element((value, 0, 0))


class Examples(Refusals, unittest.TestCase):
    def test_lines(self):
        ring = Ring(CUBIC)
        one, w, t = ring.one(), ring.w(), ring.t()
        self.assertEqual(
            [str(w * t), str(w * w), str(t * t), w.polynomial, t.norm, str(w.inverse())],
            ["-1", "-2+w-t", "-1+w-2t", ((-1, 1), (2, 1), (-1, 1)), (-1, 1), "-t"])
        z = ring.element((1, 2, -1))
        self.assertEqual(
            [str(z * w), index_of(z), str(z.scaled(1, 2)), z.trace, str(w.power(3))],
            ["-3+3w-2t", 7, "(1+2w-t)/2", (7, 1), "-1-w-t"])
        flat = Ring(PLAIN)
        self.assertEqual(
            [str(flat.w() * flat.t()), flat.w().norm, str(flat.w() * flat.w()), bool(flat.w() - flat.w())],
            ["0", (0, 1), "w", False])
        self.refuses(Refused, {"reason": ("norm",)}, flat.t().inverse)
        self.assertEqual(str(one), "1")


class LowestTerms(Refusals, unittest.TestCase):
    """[3.1]"""

    def test_entries_and_bottom(self):
        ring = Ring(CUBIC)
        for entries, bottom, wanted in (
                ((2, 4, -6), 4, ((1, 2, -3), 2)), ((2, 4, -6), -4, ((-1, -2, 3), 2)), ((0, 0, 0), -7, ((0, 0, 0), 1)),
                ((3, 0, 6), 3, ((1, 0, 2), 1)), ((3, 0, 6), -1, ((-3, 0, -6), 1)), ((0, 5, 0), 3, ((0, 5, 0), 3)),
                ((LONGEST, 0, 0), -LONGEST, ((-1, 0, 0), 1)), ((6, 10, 15), 30, ((6, 10, 15), 30))):
            value = ring.element(entries, bottom)
            self.assertEqual((value.entries, value.bottom), wanted)
            self.assertIs(value.is_whole, wanted[1] == 1)

    def test_of_results(self):
        for form in FORMS:
            one, other = some_elements(63, form, 2)
            for value in (one + other, one - other, one * other, -one, one.scaled(-4, 6), one.power(3)):
                self.assertGreater(value.bottom, 0)
                self.assertEqual(math.gcd(value.bottom, *value.entries), 1)
                self.assertTrue(type(value.entries) is tuple and len(value.entries) == 3)
                self.assertIs(value.is_whole, value.bottom == 1)
                self.assertEqual(value.ring, Ring(form))

    def test_properties(self):
        self.keeps(Ring(CUBIC).w(), ("ring", "entries", "bottom", "trace", "norm", "polynomial", "is_whole"))
        for name in ("__add__", "__sub__", "__mul__", "__neg__", "scaled", "inverse", "power", "__eq__", "__bool__",
                     "__str__"):
            self.assertIn(name, vars(Element))
        self.is_not_iterated(Ring(CUBIC).w())


class Operators(Refusals, unittest.TestCase):
    """[3.1]"""

    def test_sums(self):
        for form in FORMS:
            for one, other in zip(some_elements(64, form, 6), some_elements(65, form, 6)):
                self.assertEqual(exact(one + other), [a + b for a, b in zip(exact(one), exact(other))])
                self.assertEqual(exact(one - other), [a - b for a, b in zip(exact(one), exact(other))])
                self.assertEqual(exact(-one), [-a for a in exact(one)])
                self.assertEqual(one - other, one + -other)

    def test_products(self):
        for form in FORMS:
            a, b, c, d = form.coefficients
            for one, other in zip(some_elements(66, form, 6), some_elements(67, form, 6)):
                (u, x, y), (v, z, s) = exact(one), exact(other)
                self.assertEqual(exact(one * other), [
                    u * v - a * c * x * z - a * d * (x * s + y * z) - b * d * y * s,
                    u * z + x * v + b * x * z + d * y * s,
                    u * s + y * v - a * x * z - c * y * s])

    def test_laws(self):
        for form in FORMS:
            for size in (6, LONGEST):
                one, two, three = some_elements(68, form, 3, size)
                self.assertEqual(one * two, two * one)
                self.assertEqual(one * two * three, one * (two * three))
                self.assertEqual(one * (two + three), one * two + one * three)
                self.assertEqual(one * Ring(form).one(), one)
                self.assertEqual(one + two - two, one)

    def test_multiples(self):
        for form in FORMS:
            for one in some_elements(69, form, 3):
                for top, bottom in ((3, 1), (-2, 4), (5, -3), (0, 7), (LONGEST, -LONGEST)):
                    self.assertEqual(exact(one.scaled(top, bottom)), [a * Fraction(top, bottom) for a in exact(one)])
                self.assertEqual(one.scaled(4), one + one + one + one)

    def test_elements_of_two_rings(self):
        one, other = Ring(CUBIC).w(), Ring(ROUND).w()
        for call in (lambda: one + other, lambda: one - other, lambda: one * other):
            self.refuses(InvalidOperation, {}, call)
        same = Ring(Form((1, 1, 2, 1))).w()
        self.assertEqual([str(one + same), str(one - same), str(one * same)], ["2w", "0", "-2+w-t"])

    def test_operands_of_another_kind(self):
        one = Ring(CUBIC).w()
        for value in (None, True, 0, 1, "w", (), (1, 2), [1], {}, LONG) + OBJECTS[:3]:
            for call in (lambda: one + value, lambda: one - value, lambda: one * value, lambda: value + one,
                         lambda: value - one, lambda: value * one):
                with self.assertRaises(TypeError):
                    call()
        with self.assertRaises(TypeError):
            one ** 2
        with self.assertRaises(TypeError):
            sum([one, one])

    def test_wrong_fractions(self):
        one = Ring(CUBIC).w()
        for value in NO_INTEGERS:
            self.refuses_number(InvalidNumber, value, one.scaled, value)
            self.refuses_number(InvalidNumber, value, one.scaled, value, 0)
            self.refuses_number(InvalidNumber, value, one.scaled, 1, value)
        self.refuses_number(InvalidNumber, 0, one.scaled, 1, 0)
        self.assertEqual(one.scaled(0), one - one)


class Polynomials(unittest.TestCase):
    """[3.2]"""

    def fraction(self, pair):
        top, bottom = pair
        self.assertGreater(bottom, 0)
        self.assertEqual(math.gcd(top, bottom), 1)
        self.assertIs(type(pair), tuple)
        return Fraction(top, bottom)

    def test_the_equation(self):
        for form in FORMS:
            for size in (6, LONGEST):
                for z in some_elements(70, form, 4, size):
                    r, s, v = [self.fraction(pair) for pair in z.polynomial]
                    self.assertEqual((self.fraction(z.trace), self.fraction(z.norm)), (-r, -v))
                    square, cube = z * z, z * z * z
                    for at in range(3):
                        total = exact(cube)[at] + r * exact(square)[at] + s * exact(z)[at] + (v if at == 0 else 0)
                        self.assertEqual(total, 0)

    def test_by_the_map(self):
        for form in FORMS:
            parts = (Ring(form).one(), Ring(form).w(), Ring(form).t())
            for z in some_elements(71, form, 4):
                (a, b, c), (d, e, f), (g, h, i) = [exact(z * part) for part in parts]
                self.assertEqual(self.fraction(z.trace), a + e + i)
                self.assertEqual(self.fraction(z.norm), a * (e * i - f * h) - b * (d * i - f * g) + c * (d * h - e * g))
                self.assertEqual(self.fraction(z.polynomial[1]), a * e - b * d + a * i - c * g + e * i - f * h)

    def test_w_and_t(self):
        for form in FORMS:
            a, b, c, d = form.coefficients
            self.assertEqual(Ring(form).w().polynomial, ((-b, 1), (a * c, 1), (-a * a * d, 1)))
            self.assertEqual(Ring(form).t().polynomial, ((c, 1), (b * d, 1), (a * d * d, 1)))

    def test_norms_multiply_and_traces_add(self):
        for form in FORMS:
            one, other = some_elements(72, form, 2)
            self.assertEqual(Fraction(*(one * other).norm), Fraction(*one.norm) * Fraction(*other.norm))
            self.assertEqual(Fraction(*(one + other).trace), Fraction(*one.trace) + Fraction(*other.trace))

    def test_integers(self):
        five = number(CUBIC, 5)
        self.assertEqual((five.trace, five.norm, five.polynomial), ((15, 1), (125, 1), ((-15, 1), (75, 1), (-125, 1))))
        half = five.scaled(1, 10)
        self.assertEqual((half.trace, half.norm, half.polynomial), ((3, 2), (1, 8), ((-3, 2), (3, 4), (-1, 8))))
        zero = number(CUBIC, 0)
        self.assertEqual((zero.trace, zero.norm, zero.polynomial), ((0, 1), (0, 1), ((0, 1),) * 3))

    def test_what_is_not_true(self):
        """[3.7]"""
        w = Ring(PLAIN).w()
        self.assertTrue(bool(w) and w.norm == (0, 1))
        one, other = Ring(PLAIN).w(), -Ring(PLAIN).t()
        self.assertTrue(one.polynomial == other.polynomial and one != other)
        above = Ring(Form((0, 2, 2, 0))).w().scaled(1, 2)
        self.assertTrue(all(bottom == 1 for _, bottom in above.polynomial) and not above.is_whole)


class InversesAndPowers(Refusals, unittest.TestCase):
    def test_inverses(self):
        for form in FORMS:
            for size in (6, LONGEST):
                for z in some_elements(73, form, 4, size):
                    if z.norm[0] == 0:
                        self.refuses(Refused, {"reason": ("norm",)}, z.inverse)
                    else:
                        self.assertEqual(z * z.inverse(), Ring(form).one())
                        self.assertEqual(z.inverse().inverse(), z)
        self.refuses(Refused, {"reason": ("norm",)}, number(CUBIC, 0).inverse)

    def test_powers(self):
        for form in FORMS:
            for z in some_elements(74, form, 2):
                total = Ring(form).one()
                for many in range(7):
                    self.assertEqual(z.power(many), total)
                    if z.norm[0] != 0:
                        self.assertEqual(z.power(-many) * total, Ring(form).one())
                        self.assertEqual(z.power(-many), z.inverse().power(many))
                    total = total * z

    def test_the_greatest_powers(self):
        ring = Ring(CUBIC)
        for z in (ring.w(), ring.element((1, 2, -1), 3), ring.element((LONGEST, 1, -LONGEST), LONGEST - 1)):
            self.assertEqual(z.power(100), z.power(50) * z.power(50))
            self.assertEqual(z.power(-100) * z.power(100), ring.one())
            self.assertEqual(z.power(1), z)
            self.assertEqual(z.power(-1), z.inverse())

    def test_norm_0(self):
        w = Ring(PLAIN).w()
        self.assertEqual([w.power(0), w.power(1), w.power(100)], [Ring(PLAIN).one(), w, w])
        zero = number(CUBIC, 0)
        self.assertEqual([str(zero.power(many)) for many in (0, 1, 100)], ["1", "0", "0"])
        for value in (w, zero):
            for many in (-1, -100):
                self.refuses(Refused, {"reason": ("norm",)}, value.power, many)
            # What is no exponent is told ahead of the norm.
            self.refuses_number(InvalidNumber, -101, value.power, -101)
            self.refuses_number(InvalidNumber, None, value.power, None)

    def test_wrong_exponents(self):
        for value in NO_INTEGERS + (101, -101, 1000):
            self.refuses_number(InvalidNumber, value, Ring(CUBIC).w().power, value)


class EqualityAndTexts(unittest.TestCase):
    def test_equality(self):
        ring = Ring(CUBIC)
        one = ring.element((2, 4, -2), 4)
        self.assertIs(one == Ring(Form((1, 1, 2, 1))).element((-1, -2, 1), -2), True)
        self.assertIs(one != ring.element((1, 2, -1), 2), False)
        others = (ring.element((1, 2, -1)), ring.element((1, 2, 1), 2), ring.element((1, 2, -1), 3), -one,
                  Ring(ROUND).element((1, 2, -1), 2), (1, 2, -1), "(1+2w-t)/2", None, True, 1, {}, ring, CUBIC)
        for value in others:
            self.assertIs(one == value, False)
            self.assertIs(one != value, True)
            self.assertIs(value == one, False)
        self.assertIs(number(CUBIC, 1) == 1, False)

    def test_truth(self):
        for entries in ((0, 0, 0), (1, 0, 0), (0, -1, 0), (0, 0, 5)):
            for bottom in (1, -3):
                self.assertIs(bool(Ring(CUBIC).element(entries, bottom)), any(entries))

    def test_texts(self):
        ring = Ring(CUBIC)
        for entries, bottom, text in (
                ((0, 0, 0), 1, "0"), ((0, 0, 0), 5, "0"), ((1, 0, 0), 1, "1"), ((-1, 0, 0), 1, "-1"),
                ((7, 0, 0), 1, "7"), ((0, 1, 0), 1, "w"), ((0, -1, 0), 1, "-w"), ((0, 2, 0), 1, "2w"),
                ((0, -12, 0), 1, "-12w"), ((0, 0, 1), 1, "t"), ((0, 0, -1), 1, "-t"), ((0, 0, 9), 1, "9t"),
                ((1, 1, 1), 1, "1+w+t"), ((-1, -1, -1), 1, "-1-w-t"), ((-3, 3, -2), 1, "-3+3w-2t"),
                ((1, 0, -1), 1, "1-t"), ((0, 1, -1), 1, "w-t"), ((0, -2, 1), 1, "-2w+t"), ((10, -11, 0), 1, "10-11w"),
                ((1, 1, 0), 2, "(1+w)/2"), ((1, 1, 0), -2, "(-1-w)/2"), ((0, 0, 1), 3, "(t)/3"), ((1, 0, 0), 2, "(1)/2"),
                ((0, -5, 0), 10, "(-w)/2"), ((1, 2, -1), 2, "(1+2w-t)/2"), ((LONGEST, 0, 1), 7, f"({LONGEST}+t)/7")):
            self.assertEqual(str(ring.element(entries, bottom)), text)


if __name__ == "__main__":
    unittest.main()
