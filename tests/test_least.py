import itertools
import unittest

from formrings.base.changes import changes_to, is_change
from formrings.errors import InvalidForm, TooMany
from formrings.form.forms import Form
from formrings.led import least
from formrings.led.least import is_least, least_form, way_to_least
from tests.helper import (
    CUBIC, LONG, LONGEST, NOTHING, PLAIN, ROOT, ROUND, Refusals, no_objects, numbers, product_form, rows_of,
    some_changes)

TWENTY = 10 ** 20
FUNCTIONS = (is_least, least_form, way_to_least)


def has_told_shape(form):
    """Whether the form is a least one, by the words of [4.1], [4.2], [4.4] and [4.5]."""
    a, b, c, d = form.coefficients
    number = form.discriminant
    if number > 0:
        first, middle, last = form.hessian.coefficients
        return 0 <= middle <= first <= last and all(
            form.led(change).coefficients <= form.coefficients
            for change in changes_to(2) if form.led(change).hessian == form.hessian)
    if number == 0:
        return (a, b) == (0, 0) and ((c > 0 and 0 <= 2 * d <= c) or (c == 0 and d >= 0))
    if form.roots():
        return a == 0 and b > 0 and 0 <= c <= b
    if not (a > 0 and b >= 0 and (b > 0 or d > 0)):
        return False
    return (d * d - a * a + a * c - b * d > 0
            and a * d - b * c > -(a - b) * (a - b) - a * c
            and a * d - b * c < (a + b) * (a + b) + a * c)


class Examples(unittest.TestCase):
    def test_constant(self):
        self.assertEqual(least.MOST_DIGITS, 20)

    def test_lines(self):
        self.assertEqual(
            [str(least_form(Form(row)))
             for row in ((1, 1, -2, -1), (1, 0, -1, -1), (-1, 0, 0, 2), (0, 1, -1, 0), (8, 12, 6, 1))],
            ['(1, 2, -1, -1)', '(1, 1, 2, 1)', '(1, 3, 3, 3)', '(0, 1, 1, 0)', '(0, 0, 0, 1)'])
        self.assertEqual([is_least(form) for form in (CUBIC, ROUND, PLAIN, ROOT)], [True, True, True, False])
        self.assertEqual(Form((1, 1, -2, -1)).led(way_to_least(Form((1, 1, -2, -1)))) == ROUND, True)
        self.assertEqual(
            [str(least_form(Form(row))) for row in ((0, 1, 7, 6), (0, 2, 3, 5), (1, 0, 0, 1), (4, 4, 1, 0))],
            ['(0, 1, 1, -6)', '(0, 2, 1, 4)', '(0, 3, 3, 1)', '(0, 0, 1, 0)'])


class SmallForms(unittest.TestCase):
    """[4.1] to [4.6], against the conditions of the document"""

    def test_each_small_form(self):
        kinds = {}
        for row in itertools.product(range(-3, 4), repeat=4):
            form = Form(row)
            told = is_least(form)
            self.assertIs(told, has_told_shape(form), row)
            found = least_form(form)
            self.assertTrue(has_told_shape(found), row)
            self.assertIs(is_least(found), True)
            self.assertIs(told, found == form)
            self.assertEqual(found.discriminant, form.discriminant)
            self.assertEqual(form.led(way_to_least(form)), found)
            key = (form.discriminant > 0, form.discriminant < 0, len(form.roots()) if row != (0, 0, 0, 0) else -1)
            kinds[key] = kinds.get(key, 0) + told
        # Above 0 with no, one and three roots, below 0 with no and one, and 0 of both shapes, and the form 0.
        self.assertEqual(sorted(kinds), [(False, False, -1), (False, False, 1), (False, False, 2), (False, True, 0),
                                         (False, True, 1), (True, False, 0), (True, False, 1), (True, False, 3)])
        self.assertTrue(all(many > 0 for many in kinds.values()))

    def test_alike_ones_have_one_least_form(self):
        changes = list(changes_to(1)) + some_changes(71, 25)
        for row in rows_of(72, 60, 4, 4) + [(0, 0, 1, 0), (0, 0, 3, 1), (0, 0, 0, 5), (0, 2, 2, 0), (0, 4, 0, 1)]:
            found = least_form(Form(row))
            for change in changes:
                self.assertEqual(least_form(Form(row).led(change)), found)

    def test_least_ones_with_small_coefficients_are_not_led_to_one_another(self):
        rows = [row for row in itertools.product(range(-2, 3), repeat=4) if is_least(Form(row))]
        changes = list(changes_to(2))
        self.assertGreater(len(rows), 40)
        for row in rows:
            led = {Form(row).led(change).coefficients for change in changes}
            self.assertEqual([other for other in rows if other in led], [row])

    def test_the_least_form_is_the_greatest_of_those_with_its_hessian(self):
        for row in ((1, 2, -1, -1), (1, 0, -3, -1), (0, 1, 1, 0), (0, 1, 0, -1), (0, 1, 1, -6), (2, 0, -5, 1)):
            form = least_form(Form(row))
            rows = {form.led(change).coefficients for change in changes_to(3)
                    if form.led(change).hessian == form.hessian}
            self.assertEqual(max(rows), form.coefficients)
            self.assertGreater(len(rows), 1)

    def test_the_real_root_of_4_3(self):
        tried = 0
        for row in rows_of(74, 300, 4, 9):
            form = Form(row)
            if form.discriminant >= 0 or form.roots():
                continue
            a, b, c, d = least_form(form).coefficients
            low, high = -1000.0, 1000.0
            for _ in range(80):
                middle = (low + high) / 2
                value = ((a * middle + b) * middle + c) * middle + d
                low, high = (middle, high) if value < 0 else (low, middle)
            self.assertLess(abs(b + a * low), a + 1e-6)
            self.assertLess(a, c + b * low + a * low * low + 1e-6)
            tried += 1
        self.assertGreater(tried, 60)

    def test_multiples_and_opposites(self):
        for row in rows_of(75, 80, 4, 6) + [(0, 0, 2, 1), (0, 0, 0, 3), (0, 0, 0, 0), (0, 3, 1, 2)]:
            found = least_form(Form(row))
            self.assertEqual(least_form(-Form(row)), found)
            for number in (-3, -1, 1, 2, 10 ** 6):
                self.assertEqual(least_form(Form(row).times(number)), found.times(abs(number)))


class GreatForms(Refusals, unittest.TestCase):
    """[4.1] to [4.6], [0.6]"""

    def check(self, form):
        found = least_form(form)
        self.assertTrue(has_told_shape(found), form)
        change = way_to_least(form)
        self.assertTrue(is_change(change))
        self.assertTrue(all(abs(number) < LONG for row in change for number in row))
        self.assertEqual(form.led(change), found)
        return found

    def test_great_changes(self):
        source = numbers(76)
        for row in ((1, 1, 2, 1), (1, 2, -1, -1), (0, 1, 1, 0), (0, 2, 1, 4), (0, 0, 3, 1), (0, 0, 0, 2), (1, 3, 3, 3)):
            for _ in range(6):
                k, m, n = [source.choice((-1, 1)) * source.randint(1, 90) for _ in range(3)]
                form = Form(row).led(((1, k), (0, 1))).led(((1, 0), (m, -1))).led(((1, n), (0, 1)))
                self.assertEqual(self.check(form), Form(row))

    def test_eighteen_to_twenty_digits(self):
        for digits in (18, 19, 20):
            most = 10 ** digits - 1
            rows = rows_of(77 + digits, 12, 4, most) + [
                (most, -most, most, -most), (most, 0, 0, 1), (1, 0, 0, most), (0, most, 1, most), (0, most, most, -most),
                (0, 0, most, most), (0, 0, 0, -most), (most, most, most, most), (1, most, 0, 0), (1, -most, most, 1),
                (most, 1, 0, -1), (0, 1, most, most), (0, 0, 1, most), (1, 0, most, 1), (1, 0, -most, 1)]
            for row in rows:
                self.check(Form(row))

    def test_roots_and_squares_with_great_coefficients(self):
        source = numbers(80)
        for size in (10 ** 3, 10 ** 9, 10 ** 16):
            for _ in range(12):
                root = (source.randint(-size, size), source.randint(1, size))
                most = TWENTY // size // 3
                double = tuple(source.randint(-most, most) for _ in range(3))
                self.check(product_form(root, double))
        for size in (10 ** 3, 10 ** 6):
            for _ in range(8):
                x, y = source.randint(-size, size), source.randint(1, size)
                most = TWENTY // (size * size) // 5
                u, v = source.randint(-most, most), source.randint(-most, most)
                form = product_form((x, y), (y * u, y * v - x * u, -x * v))
                self.assertEqual(form.discriminant, 0)
                self.check(form)
                self.check(product_form((x, y), (y * y, -2 * x * y, x * x)))

    def test_the_bound_of_digits(self):
        for at in range(4):
            for sign in (1, -1):
                row = [1, 1, 2, 1]
                row[at] = sign * (TWENTY - 1)
                self.check(Form(tuple(row)))
                is_least(Form(tuple(row)))
                for number in (TWENTY, 10 ** 40, LONGEST):
                    row[at] = sign * number
                    for call in FUNCTIONS:
                        self.refuses(TooMany, {"most": 20}, call, Form(tuple(row)))
        for call in FUNCTIONS:
            self.refuses(TooMany, {"most": 20}, call, Form((LONGEST, 0, 0, 0)).times(LONGEST))

    def test_wrong_forms(self):
        for value in no_objects(Form):
            for call in FUNCTIONS:
                self.refuses(InvalidForm, {}, call, value)


class NotTrue(unittest.TestCase):
    """[4.7]"""

    def test_the_least_form_is_not_least_as_a_tuple(self):
        self.assertEqual(least_form(Form((-1, 0, 0, 2))), Form((1, 3, 3, 3)))
        self.assertLess((-1, 0, 0, 2), (1, 3, 3, 3))

    def test_small_coefficients_are_not_enough(self):
        self.assertIs(is_least(Form((1, 0, 0, 1))), False)
        self.assertIs(is_least(Form((0, 0, 1, 1))), False)

    def test_the_opposite_is_no_opposite(self):
        self.assertEqual(least_form(-CUBIC), CUBIC)
        self.assertNotEqual(least_form(-CUBIC), -CUBIC)

    def test_a_first_coefficient_of_0(self):
        self.assertGreater(PLAIN.discriminant, 0)
        self.assertIs(is_least(PLAIN), True)

    def test_the_form_0(self):
        self.assertEqual((least_form(NOTHING), is_least(NOTHING)), (NOTHING, True))
        self.assertEqual(NOTHING.led(way_to_least(NOTHING)), NOTHING)


if __name__ == "__main__":
    unittest.main()
