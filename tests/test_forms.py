import math
import unittest

from formrings.base.changes import joined, undone
from formrings.errors import InvalidChange, InvalidForm, InvalidNumber, InvalidOperation, ParseError, Refused
from formrings.form.doubles import Double
from formrings.form.forms import Form
from tests.helper import (
    CUBIC, LONG, LONG_CHANGES, LONGEST, NO_CHANGES, NO_INTEGERS, NOTHING, OBJECTS, PLAIN, ROOT, ROUND, Refusals,
    determinant, nested, no_rows, numbers, rows_of, some_changes)

ROWS = rows_of(31, 40, 4, 9) + rows_of(32, 8, 4, LONGEST) + [
    (0, 0, 0, 0), (0, 0, 0, 3), (0, 0, 2, 4), (1, 3, 3, 1), (0, 1, 1, 0), (2, 0, 0, -4), (LONGEST,) * 4]


class Examples(Refusals, unittest.TestCase):
    def test_lines(self):
        self.assertEqual(
            [CUBIC.discriminant, str(CUBIC.hessian), str(CUBIC.covariant), CUBIC(2, -1), CUBIC.content,
             CUBIC.hessian.discriminant],
            [-23, "(-5, -7, 1)", "(11, -39, -48, -25)", 7, 1, 69])
        self.assertEqual(
            [str(CUBIC.led(((1, 0), (1, 1)))), str(CUBIC.led(((0, 1), (1, 0)))),
             CUBIC.led(((-1, 0), (0, -1))) == -CUBIC, ROUND.discriminant, ROOT.discriminant],
            ["(1, 4, 7, 5)", "(-1, -2, -1, -1)", True, 49, -108])
        self.assertEqual(
            [ROUND.times(3).divided(-3) == -ROUND, ROUND[1], bool(NOTHING), Form.read("(1, 2, -1, -1)") == ROUND],
            [True, 2, False, True])

    def test_the_rest(self):
        self.refuses(Refused, {"reason": ("rest", 2)}, ROUND.divided, 2)


class Properties(Refusals, unittest.TestCase):
    """[2.3], [2.4], [0.9]"""

    def test_by_the_words(self):
        for a, b, c, d in ROWS:
            form = Form((a, b, c, d))
            self.assertEqual(form.coefficients, (a, b, c, d))
            self.assertEqual(form.content, math.gcd(a, b, c, d))
            self.assertEqual(form.discriminant, b ** 2 * c ** 2 - 4 * a * c ** 3 - 4 * b ** 3 * d
                             - 27 * a ** 2 * d ** 2 + 18 * a * b * c * d)
            self.assertEqual(form.hessian.coefficients, (b * b - 3 * a * c, b * c - 9 * a * d, c * c - 3 * b * d))
            self.assertEqual(form.covariant.coefficients, (
                2 * b ** 3 - 9 * a * b * c + 27 * a * a * d, 3 * b * b * c - 18 * a * c * c + 27 * a * b * d,
                -3 * b * c * c + 18 * b * b * d - 27 * a * c * d, -2 * c ** 3 + 9 * b * c * d - 27 * a * d * d))
        self.keeps(form, ("coefficients", "discriminant", "content", "hessian", "covariant"))

    def test_kinds_of_values(self):
        self.assertIsInstance(CUBIC.hessian, Double)
        self.assertIsInstance(CUBIC.covariant, Form)
        self.assertIsInstance(CUBIC.coefficients, tuple)

    def test_the_equations(self):
        source = numbers(33)
        for row in ROWS:
            form = Form(row)
            hessian, covariant, big = form.hessian, form.covariant, form.discriminant
            for size in (6, LONGEST):
                x, y = source.randint(-size, size), source.randint(-size, size)
                self.assertEqual(4 * hessian(x, y) ** 3, covariant(x, y) ** 2 + 27 * big * form(x, y) ** 2)
            self.assertEqual(hessian.discriminant, -3 * big)
            self.assertEqual(covariant.discriminant, 729 * big ** 3)
            wanted = tuple(27 * big * number for number in hessian.coefficients)
            self.assertEqual(covariant.hessian.coefficients, wanted)

    def test_values(self):
        source = numbers(34)
        for a, b, c, d in ROWS:
            for size in (5, LONGEST):
                x, y = source.randint(-size, size), source.randint(-size, size)
                self.assertEqual(Form((a, b, c, d))(x, y), a * x ** 3 + b * x * x * y + c * x * y * y + d * y ** 3)

    def test_the_form_0(self):
        self.assertEqual((NOTHING.content, NOTHING.discriminant, NOTHING(3, 4), str(NOTHING)),
                         (0, 0, 0, "(0, 0, 0, 0)"))
        self.assertEqual(NOTHING.hessian, Double((0, 0, 0)))
        self.assertEqual([NOTHING.covariant, -NOTHING, NOTHING.times(5), NOTHING.divided(5)], [NOTHING] * 4)
        self.assertEqual(NOTHING.led(((2, 1), (1, 1))), NOTHING)
        self.assertEqual([NOTHING[0], NOTHING[3]], [0, 0])

    def test_truth(self):
        for row in ROWS:
            self.assertIs(bool(Form(row)), row != (0, 0, 0, 0))
        self.assertIs(bool(Form((0, 0, 0, -1))), True)

    def test_opposites_and_equality(self):
        for row in ROWS:
            self.assertEqual((-Form(row)).coefficients, tuple(-number for number in row))
        self.assertIs(CUBIC == Form((1, 1, 2, 1)), True)
        self.assertIs(CUBIC != Form((1, 1, 2, 1)), False)
        for value in ((1, 1, 2, 1), "(1, 1, 2, 1)", [1, 1, 2, 1], None, True, 1, {}, -CUBIC, ROUND) + OBJECTS[1:]:
            self.assertIs(CUBIC == value, False)
            self.assertIs(CUBIC != value, True)
            self.assertIs(value == CUBIC, False)

    def test_places(self):
        for row in ROWS:
            self.assertEqual(tuple(Form(row)[place] for place in range(4)), row)
        for place in (-1, 4, 100) + NO_INTEGERS:
            self.refuses_number(InvalidNumber, place, CUBIC.__getitem__, place)

    def test_is_not_iterated(self):
        self.is_not_iterated(CUBIC)
        for call in (len, reversed):
            with self.assertRaises(TypeError):
                call(CUBIC)

    def test_the_methods_are_its_own(self):
        for name in ("read", "__call__", "led", "times", "divided", "roots", "rest", "__neg__", "__getitem__",
                     "__bool__", "__eq__", "__str__"):
            self.assertIn(name, vars(Form))

    def test_what_is_not_true(self):
        """[2.7]"""
        # Roots are led with their forms, so these two are not led to one another.
        rooted = Form((0, 1, 1, -12))
        self.assertEqual(rooted.discriminant, ROUND.discriminant)
        self.assertEqual((rooted.roots(), ROUND.roots()), (((-4, 1), (1, 0), (3, 1)), ()))
        one, other = Form((1, 0, 0, 6)), Form((2, 0, 0, 3))
        self.assertEqual(one.hessian, other.hessian)
        self.assertTrue(one != other and one != -other)
        self.assertTrue(bool(Form((1, 3, 3, 1))) and Form((1, 3, 3, 1)).hessian == Double((0, 0, 0)))
        self.assertEqual((ROUND.discriminant, ROUND.roots()), (7 * 7, ()))
        swap = ((0, 1), (1, 0))
        led = CUBIC.led(swap).covariant
        self.assertEqual(led, -CUBIC.covariant.led(swap))
        self.assertNotEqual(led, CUBIC.covariant.led(swap))


class Wrong(Refusals, unittest.TestCase):
    def test_coefficients(self):
        for value in no_rows(4):
            self.refuses(InvalidForm, {}, Form, value)
        self.assertEqual(Form((LONGEST, -LONGEST, 0, 1)).coefficients, (LONGEST, -LONGEST, 0, 1))

    def test_integers(self):
        for value in NO_INTEGERS:
            self.refuses_number(InvalidNumber, value, CUBIC, value, 1)
            self.refuses_number(InvalidNumber, value, CUBIC, 1, value)
            self.refuses_number(InvalidNumber, value, CUBIC, value, "2")
            self.refuses_number(InvalidNumber, value, NOTHING, value, 1)
            self.refuses_number(InvalidNumber, value, CUBIC.times, value)
            self.refuses_number(InvalidNumber, value, CUBIC.divided, value)
            self.refuses_number(InvalidNumber, value, NOTHING.divided, value)

    def test_changes(self):
        for value in NO_CHANGES + LONG_CHANGES:
            self.refuses(InvalidChange, {}, CUBIC.led, value)
            self.refuses(InvalidChange, {}, NOTHING.led, value)

    def test_operands_of_another_kind(self):
        for value in (CUBIC, 1, None, (1,), "1") + OBJECTS:
            with self.assertRaises(TypeError):
                CUBIC + value
            with self.assertRaises(TypeError):
                value * CUBIC
            with self.assertRaises(TypeError):
                CUBIC < value


class Led(unittest.TestCase):
    """[2.5], [0.10]"""

    def test_values_and_what_stays(self):
        source = numbers(35)
        for row in ROWS:
            for change in some_changes(36, 6):
                (p, q), (r, s) = change
                form, e = Form(row), determinant(change)
                led = form.led(change)
                x, y = source.randint(-9, 9), source.randint(-9, 9)
                self.assertEqual(led(x, y), e * form(p * x + r * y, q * x + s * y))
                self.assertEqual((led[0], led[3]), (e * form(p, q), e * form(r, s)))
                self.assertEqual((led.discriminant, led.content), (form.discriminant, form.content))

    def test_hessian_and_covariant(self):
        seen = set()
        for row in ROWS:
            for change in some_changes(37, 6):
                form, e = Form(row), determinant(change)
                seen.add(e)
                self.assertEqual(form.led(change).hessian, form.hessian.led(change))
                # Form.led has the factor e, by which the covariant is led without.
                self.assertEqual(form.led(change).covariant, form.covariant.led(change).times(e))
        self.assertEqual(seen, {1, -1})

    def test_one_by_one_joined_and_back(self):
        for row in ROWS:
            for one, other in zip(some_changes(38, 6), some_changes(39, 6)):
                form = Form(row)
                self.assertEqual(form.led(one).led(other), form.led(joined(one, other)))
                self.assertEqual(form.led(one).led(undone(one)), form)
            self.assertEqual(form.led(((-1, 0), (0, -1))), -form)
            self.assertEqual(form.led(((1, 0), (0, 1))), form)

    def test_longer_ones_can_be_passed_on(self):
        form = Form((LONGEST, 2, 3, LONGEST)).led(((1, LONGEST), (0, 1)))
        self.assertGreater(form[0], LONG ** 3)
        self.assertEqual(form.led(((1, -LONGEST), (0, 1))), Form((LONGEST, 2, 3, LONGEST)))
        self.assertEqual(form.times(LONGEST).divided(-LONGEST), -form)
        self.assertEqual(form.covariant.hessian.discriminant, -3 * form.covariant.discriminant)
        self.assertEqual(form.content, Form((LONGEST, 2, 3, LONGEST)).content)


class Multiples(Refusals, unittest.TestCase):
    def test_there_and_back(self):
        for row in ROWS:
            for number in (1, -1, 2, -7, LONGEST):
                form = Form(row).times(number)
                self.assertEqual(form.coefficients, tuple(number * each for each in row))
                self.assertEqual(form.divided(number), Form(row))
                self.assertEqual(form.divided(-number), -Form(row))
        self.assertEqual(CUBIC.times(0), NOTHING)

    def test_what_is_not_divided(self):
        self.refuses_number(InvalidNumber, 0, CUBIC.divided, 0)
        self.refuses_number(InvalidNumber, 0, NOTHING.divided, 0)
        for row, number in (((2, 4, 6, 7), 2), ((1, 0, 0, 0), -2), ((2, 4, 6, 8), 4), ((9, 9, 9, 9), LONGEST)):
            self.refuses(Refused, {"reason": ("rest", number)}, Form(row).divided, number)
        self.assertEqual(Form((2, 4, -6, 8)).divided(-2), Form((-1, -2, 3, -4)))


class Read(Refusals, unittest.TestCase):
    def test_texts_of_forms(self):
        for row in ROWS:
            read = Form.read(str(Form(row)))
            self.assertIs(type(read), Form)
            self.assertEqual(read, Form(row))
        self.assertEqual(Form.read("(0, -10, 0, 7)"), Form((0, -10, 0, 7)))

    def test_nearly_texts(self):
        wrong = (
            "", "(", ")", "()", "1", "(1, 2, -1)", "(1, 2, -1, -1, 0)", "1, 2, -1, -1", "(1, 2, -1, -1", "1, 2, -1, -1)",
            "[1, 2, -1, -1]", "((1, 2, -1, -1))", "(1,2,-1,-1)", "(1,  2, -1, -1)", "( 1, 2, -1, -1)",
            "(1, 2, -1, -1 )", " (1, 2, -1, -1)", "(1, 2, -1, -1) ", "(1, 2, -1, -1)\n", "(1, 2, -1,\t-1)",
            "(1, 2, -1, -1,)", "(1, 2, -1, -1, )", "(+1, 2, -1, -1)", "(1, 2, - 1, -1)", "(1, 2, --1, -1)",
            "(01, 2, -1, -1)", "(1, 2, -01, -1)", "(1, 2, -0, -1)", "(00, 2, -1, -1)", "(1, 2, , -1)", "(1, 2, -, -1)",
            "(1.0, 2, -1, -1)", "(1_0, 2, -1, -1)", "(a, 2, -1, -1)", "(1, 2, -1, True)", "(1, 2, -1, 0x1)",
            "(1, 2, -1, -1)(1, 2, -1, -1)", "(1; 2; -1; -1)", "\u0661", "(\u0661, 2, -1, -1)", "(\u00b2, 2, -1, -1)",
            "form 1 2 -1 -1", "(" * 4000, "(" + "1" * 3999, "(1, 2, -1, -1" + " " * 3000 + ")")
        for text in wrong:
            self.refuses(ParseError, {"spot": 0}, Form.read, text)

    def test_sixty_digits(self):
        self.assertEqual(Form.read(f"({LONGEST}, -{LONGEST}, 0, 1)"), Form((LONGEST, -LONGEST, 0, 1)))
        for number in (LONG, -LONG, 10 ** 500):
            self.refuses(ParseError, {"spot": 0}, Form.read, f"(1, {number}, 0, 1)")
        self.refuses(ParseError, {"spot": 0}, Form.read, f"({'0' * 60}1, 2, -1, -1)")

    def test_no_texts(self):
        for value in (None, True, 1, (1, 2, -1, -1), [1, 2, -1, -1], {}, LONG, ("(1, 2, -1, -1)",), nested(8)) + OBJECTS:
            self.refuses(ParseError, {"spot": 0}, Form.read, value)


class Roots(Refusals, unittest.TestCase):
    """[2.6]"""

    def check(self, form, wanted=None):
        """The roots fulfil what is told of them, and are all of the wanted ones."""
        roots = form.roots()
        self.assertIsInstance(roots, tuple)
        self.assertEqual(list(roots), sorted(set(roots)))
        self.assertLessEqual(len(roots), 3)
        a, b, c, d = form.coefficients
        for x, y in roots:
            self.assertEqual((form(x, y), math.gcd(x, y)), (0, 1))
            self.assertTrue(y > 0 or (x, y) == (1, 0))
            rest = form.rest((x, y))
            self.assertIs(type(rest), Double)
            u, v, w = rest.coefficients
            self.assertEqual((y * u, y * v - x * u, y * w - x * v, -x * w), (a, b, c, d))
            self.assertEqual(form.discriminant, rest.discriminant * rest(x, y) ** 2)
        if wanted is not None:
            self.assertEqual(roots, tuple(sorted(set(wanted))))

    def line(self, source, size):
        x, y = source.randint(-size, size), source.randint(0, size)
        if y == 0:
            return (1, 0)
        return (x // math.gcd(x, y), y // math.gcd(x, y))

    def product(self, root, double):
        (x, y), (u, v, w) = root, double
        return (y * u, y * v - x * u, y * w - x * v, -x * w)

    def test_lines(self):
        self.assertEqual(
            [PLAIN.roots(), CUBIC.roots(), str(PLAIN.rest((-1, 1))), Form((4, 0, -3, 1)).roots(),
             str(Form((4, 0, -3, 1)).rest((1, 2))), str(Form((0, 0, 2, 4)).rest((1, 0)))],
            [((-1, 1), (0, 1), (1, 0)), (), "(0, 1, 0)", ((-1, 1), (1, 2)), "(2, 1, -1)", "(0, -2, -4)"])

    def test_three_told_roots(self):
        source = numbers(41)
        for size in (2, 9, 10 ** 6, 10 ** 19):
            for _ in range(60):
                one, two, three = [self.line(source, size) for _ in range(3)]
                double = (two[1] * three[1], -two[1] * three[0] - two[0] * three[1], two[0] * three[0])
                form = Form(self.product(one, double)).times(source.choice((1, -1, 6)))
                self.check(form, (one, two, three))

    def test_one_root(self):
        source = numbers(42)
        for size in (9, 10 ** 6, 10 ** 29):
            for _ in range(60):
                root = self.line(source, size)
                double = (source.randint(1, size), source.randint(-1, 1), source.randint(1, size))
                self.check(Form(self.product(root, double)), (root,))
                # 3 divides the discriminant of x x + 3 k x y - 3 l y y just once, so it is no square.
                k, m = source.randint(-size, size), 3 * source.randint(0, size) + 1
                self.check(Form(self.product(root, (1, 3 * k, -3 * m))), (root,))

    def test_no_roots(self):
        # By 7 a cube leaves 0, 1 or 6, so that x x x - 2 y y y is no multiple of 7 but for multiples of 7.
        for row in ((1, 0, 0, -2), (8, 7, 49, 5), (1 + 7 * 10 ** 50, 7 * 10 ** 55, 0, -2 - 7 * 10 ** 58)):
            self.check(Form(row), ())

    def test_all_small_forms(self):
        pairs = [(x, y) for y in range(1, 4) for x in range(-3, 4) if math.gcd(x, y) == 1] + [(1, 0)]
        for a in range(-3, 4):
            for b in range(-3, 4):
                for c in range(-3, 4):
                    for d in range(-3, 4):
                        if any((a, b, c, d)):
                            form = Form((a, b, c, d))
                            self.check(form, [pair for pair in pairs if form(*pair) == 0])

    def test_roots_close_to_the_turns(self):
        for shift in (0, 1, -1, 10 ** 12):
            for one in range(-2, 3):
                for two in range(-2, 3):
                    i, j = one + shift, two + shift
                    for number in (-1, 0, 1):
                        row = (1, -(2 * i + j), i * i + 2 * i * j, -i * i * j + number)
                        places = [z for z in range(shift - 9, shift + 10)
                                  if ((z + row[1]) * z + row[2]) * z + row[3] == 0]
                        self.check(Form(row), [(z, 1) for z in places])

    def test_one_told_root_among_all_doubles(self):
        for z in (-3, 0, 1, 50):
            for middle in range(-12, 13):
                for last in range(-30, 31):
                    roots = Form(self.product((z, 1), (1, middle, last))).roots()
                    self.assertIn((z, 1), roots)
                    inner = middle * middle - 4 * last
                    self.assertEqual(len(roots) > 1, inner >= 0 and math.isqrt(inner) ** 2 == inner
                                     and (inner, 2 * z) != (0, -middle))

    def test_discriminant_0(self):
        for one in rows_of(43, 30, 2, 20):
            for two in rows_of(44, 4, 2, 20):
                (x, y), (u, v) = one, two
                row = (y * y * u, y * y * v - 2 * x * y * u, x * x * u - 2 * x * y * v, x * x * v)
                if any(row):
                    form = Form(row)
                    self.assertEqual(form.discriminant, 0)
                    self.check(form)
                    self.assertTrue(1 <= len(form.roots()) <= 2)
        self.check(Form((0, 0, 0, 5)), ((1, 0),))
        self.check(Form((5, 0, 0, 0)), ((0, 1),))
        self.check(Form((0, 0, 3, 0)), ((0, 1), (1, 0)))
        self.check(Form((1, 3, 3, 1)), ((-1, 1),))

    def test_great_ones(self):
        self.check(Form((LONGEST, 0, 0, -LONGEST)), ((1, 1),))
        self.check(Form((10 ** 57, 0, 0, -1)), ((1, 10 ** 19),))
        self.check(Form((1, 0, 0, 10 ** 57)), ((-10 ** 19, 1),))
        self.check(Form((LONGEST, LONGEST, LONGEST, LONGEST)), ((-1, 1),))
        self.check(Form((0, LONGEST, 0, -LONGEST)), ((-1, 1), (1, 0), (1, 1)))
        far = PLAIN.led(((1, 10 ** 25), (10 ** 25, 10 ** 50 + 1)))
        self.check(far)
        self.assertEqual(len(far.roots()), 3)
        longer = Form((4, 0, -3, 1)).times(LONGEST).times(LONGEST)
        self.check(longer, ((-1, 1), (1, 2)))
        self.assertEqual(PLAIN.covariant.covariant.roots(), PLAIN.roots())

    def test_the_form_0(self):
        self.refuses(InvalidOperation, {}, NOTHING.roots)
        for value in ((0, 1), (1, 0), None, (0, 0)):
            self.refuses(InvalidOperation, {}, NOTHING.rest, value)

    def test_wrong_roots(self):
        for value in no_rows(2) + [(0, 0), (0, -1), (-1, 0), (2, 0), (1, 1), (-2, 2), (0, 2), (1, -1), (LONG, 1)]:
            self.refuses(InvalidOperation, {}, PLAIN.rest, value)
        for value in ((0, 1), (1, 0), (0, 0), (-1, 1)):
            self.refuses(InvalidOperation, {}, CUBIC.rest, value)
        # Roots of more than sixty digits are told, but are not passed.
        long = Form((1, 0, 0, 0)).led(((1, 0), (LONGEST, 1))).led(((1, 0), (LONGEST, 1)))
        self.assertEqual(long.roots(), ((-2 * LONGEST, 1),))
        self.refuses(InvalidOperation, {}, long.rest, long.roots()[0])


if __name__ == "__main__":
    unittest.main()
