import itertools
import math
import unittest

from formrings.base.changes import joined
from formrings.double.classes import classes_of, first_class, least_double, order_of, power_of, thirds, together
from formrings.errors import InvalidChange, InvalidDouble, InvalidForm, InvalidOperation, Refused, TooMany
from formrings.form.doubles import Double
from formrings.form.forms import Form
from formrings.led.ways import are_led, ways
from formrings.threefold import threefolds
from formrings.threefold.threefolds import (
    form_of_threefold, is_third_paper, small_hessian, third_paper, threefold_led, threefold_of_form, threefolds_of)
from tests.helper import (
    CUBIC, IDLE, LONG, LONG_CHANGES, LONGEST, NO_CHANGES, OBJECTS, Refusals, determinant, nested, no_objects, no_rows,
    rows_of, some_changes)

THIRD = Double((2, 1, 3))
ROWS = [(0, 0, 0, 0), (1, 1, -1, -2), (0, 1, 1, 0), (1, 1, 0, -1), (LONGEST, -LONGEST, LONGEST, 1)] + rows_of(151, 60,
    4, 30)
NUMBERS = [number for number in range(-240, 0) if number % 4 < 2] + [-972, -3299, -4027, -2700]
CALLS = (threefolds_of, third_paper, lambda value: is_third_paper(value, None))


def doubles():
    """Some positive primitive doubles, least ones and others."""
    for number in NUMBERS:
        for least in classes_of(number)[:9]:
            for change in (IDLE, ((2, 1), (1, 1)), ((0, 1), (1, 5))):
                if least.led(change).coefficients[0] <= 1000:
                    yield least.led(change)


def all_small(most):
    """The dict from small Hessians to all threefolds whose integers have sizes of at most most."""
    found = {}
    for row in itertools.product(range(-most, most + 1), repeat=4):
        a, b, c, d = row
        found.setdefault((b * b - a * c, b * c - a * d, c * c - b * d), []).append(row)
    return found


class Examples(unittest.TestCase):
    def test_constants(self):
        self.assertEqual((threefolds.MAX_SIZE, threefolds.MAX_FIRST), (100000, 1000))

    def test_lines(self):
        self.assertEqual(
            [threefolds_of(THIRD), small_hessian((1, 1, -1, -2)) == THIRD, str(form_of_threefold((1, 1, -1, -2))),
             threefold_of_form(Form((1, 3, -3, -2)))],
            [((-1, -1, 1, 2), (1, 1, -1, -2)), True, '(1, 3, -3, -2)', (1, 1, -1, -2)])
        self.assertEqual(
            [threefolds_of(Double((1, 0, 1))), threefolds_of(Double((2, 2, 3))), len(threefolds_of(Double((1, 1, 1))))],
            [((-1, 0, 1, 0), (0, -1, 0, 1), (0, 1, 0, -1), (1, 0, -1, 0)), (), 6])
        self.assertEqual(
            [third_paper(Double((2, 2, 3))) == ("cube", Double((2, 2, 3))),
             is_third_paper(THIRD, ("threefold", (-1, -1, 1, 2))), is_third_paper(THIRD, ("threefold", (1, 1, -1, 2)))],
            [True, True, False])
        led = threefold_led((1, 1, -1, -2), ((1, 0), (1, 1)))
        self.assertEqual([led, small_hessian(led) == THIRD.led(((1, 0), (1, 1)))], [(1, 2, 2, -1), True])
        with self.assertRaises(Refused) as caught:
            threefold_of_form(CUBIC)
        self.assertEqual(caught.exception.reason, ("middle",))


class Hessians(Refusals, unittest.TestCase):
    """[15.1], [15.2]"""

    def test_formulas(self):
        for row in ROWS:
            a, b, c, d = row
            small = small_hessian(row)
            self.assertIs(type(small), Double)
            self.assertEqual(small.coefficients, (b * b - a * c, b * c - a * d, c * c - b * d))
            form = form_of_threefold(row)
            self.assertIs(type(form), Form)
            self.assertEqual(form.coefficients, (a, 3 * b, 3 * c, d))
            self.assertEqual(form.hessian.coefficients, tuple(9 * number for number in small.coefficients))
            self.assertEqual(form.discriminant, -27 * small.discriminant)
            self.assertEqual(threefold_of_form(form), row)

    def test_rules(self):
        for a, b, c, d in ROWS:
            first, middle, last = small_hessian((a, b, c, d)).coefficients
            self.assertEqual(first * b * b - middle * a * b + last * a * a, first * first)
            self.assertEqual((first * c, first * d), (middle * b - last * a, middle * c - last * b))

    def test_middle_coefficients(self):
        for row in rows_of(152, 60, 4, 9):
            form = Form(row)
            if row[1] % 3 == 0 and row[2] % 3 == 0:
                self.assertEqual(form_of_threefold(threefold_of_form(form)), form)
            else:
                self.refuses(Refused, {"reason": ("middle",)}, threefold_of_form, form)
        self.refuses(Refused, {"reason": ("middle",)}, threefold_of_form, Form((0, 3, 1, 0)))
        self.refuses(Refused, {"reason": ("middle",)}, threefold_of_form, Form((0, 2, 3, 0)))
        self.assertEqual(threefold_of_form(Form((1, -3, 6, 2))), (1, -1, 2, 2))

    def test_led_ones(self):
        changes = some_changes(153, 12) + [((1, LONGEST), (0, 1)), ((0, 1), (1, 0))]
        for row in ROWS[:30]:
            for change in changes:
                led = threefold_led(row, change)
                self.assertEqual(form_of_threefold(row).led(change).coefficients,
                                 (led[0], 3 * led[1], 3 * led[2], led[3]))
                a, b, c, d = led
                self.assertEqual(small_hessian(row).led(change).coefficients,
                                 (b * b - a * c, b * c - a * d, c * c - b * d))

    def test_one_behind_the_other(self):
        changes = some_changes(154, 10)
        for row in ROWS[1:20]:
            if max(map(abs, row)) < 100:
                for first, second in itertools.product(changes, repeat=2):
                    self.assertEqual(threefold_led(threefold_led(row, first), second),
                                     threefold_led(row, joined(first, second)))
                self.assertEqual(threefold_led(row, IDLE), row)
                self.assertEqual(threefold_led(row, ((-1, 0), (0, -1))), tuple(-number for number in row))


class Found(unittest.TestCase):
    """[15.2], [15.3]"""

    def test_against_all_small_ones(self):
        small = all_small(6)
        for number in range(-200, 0):
            if number % 4 < 2:
                for double in classes_of(number):
                    found = threefolds_of(double)
                    near = [row for row in found if max(map(abs, row)) <= 6]
                    self.assertEqual(near, sorted(small.get(double.coefficients, [])))

    def test_doubles_that_are_not_least(self):
        small = all_small(5)
        many = 0
        for coefficients, rows in small.items():
            double = Double(coefficients)
            if coefficients[0] > 0 and double.discriminant < 0 and double.content == 1:
                found = threefolds_of(double)
                self.assertLessEqual(set(rows), set(found))
                self.assertTrue(all(small_hessian(row) == double for row in found))
                many += 1
        self.assertGreater(many, 1000)

    def test_against_the_class_three_times(self):
        for double in doubles():
            found = threefolds_of(double)
            cube = power_of(double, 3)
            self.assertEqual(len(found) > 0, cube == first_class(double.discriminant))
            self.assertEqual(len(found) > 0, order_of(double) in (1, 3))
            self.assertEqual(list(found), sorted(set(found)))
            self.assertEqual(sorted(tuple(-number for number in row) for row in found), list(found))
            self.assertTrue(all(small_hessian(row) == double for row in found))

    def test_how_many(self):
        for double in doubles():
            many = {-3: 6, -4: 4}.get(double.discriminant, 2)
            self.assertIn(len(threefolds_of(double)), (0, many))
        for change in some_changes(155, 12):
            for row, many in (((1, 1, 1), 6), ((1, 0, 1), 4), ((1, 1, 2), 2), ((2, 1, 3), 2), ((2, 2, 3), 0)):
                double = Double(row).led(change)
                if double.coefficients[0] <= 1000:
                    self.assertEqual(len(threefolds_of(double)), many)

    def test_the_classes_that_are_small_hessians(self):
        for number in NUMBERS:
            right = [double for double in classes_of(number) if threefolds_of(double)]
            self.assertEqual(len(right), thirds(number))

    def test_made_together(self):
        # [15.4]
        for number in (-23, -3299, -4027, -108, -972, -4, -3):
            right = [double for double in classes_of(number) if threefolds_of(double)]
            for one, other in itertools.product(right, repeat=2):
                self.assertTrue(threefolds_of(together(one, other)))

    def test_great_middle_coefficients(self):
        for times in (10 ** 20, 10 ** 29, -10 ** 29):
            for row in ((2, 1, 3), (1, 0, 1), (2, 2, 3), (1, 1, 25000), (999, 1, 25)):
                double = Double(row).led(((1, 0), (times, 1)))
                found = threefolds_of(double)
                self.assertEqual(sorted(threefold_led(one, ((1, 0), (times, 1))) for one in threefolds_of(Double(row))),
                                 list(found))
                self.assertTrue(is_third_paper(double, third_paper(double)))


class Papers(unittest.TestCase):
    """[15.3], third_paper"""

    def test_both_kinds(self):
        words = set()
        for double in doubles():
            word, told = paper = third_paper(double)
            words.add(word)
            self.assertIs(is_third_paper(double, paper), True)
            if word == "threefold":
                self.assertIn(told, threefolds_of(double))
            else:
                self.assertEqual((threefolds_of(double), told), ((), power_of(double, 3)))
        self.assertEqual(words, {"threefold", "cube"})

    def test_all_right_ones(self):
        for double in doubles():
            cubes = [least for least in classes_of(double.discriminant)
                     if is_third_paper(double, ("cube", least))]
            found = threefolds_of(double)
            self.assertEqual(cubes, [] if found else [power_of(double, 3)])
            for row in found:
                self.assertIs(is_third_paper(double, ("threefold", row)), True)
                for at in range(4):
                    for step in (1, -1):
                        near = row[:at] + (row[at] + step,) + row[at + 1:]
                        self.assertIs(is_third_paper(double, ("threefold", near)), near in found)

    def test_values_near_papers(self):
        row = (1, 1, -1, -2)
        cube = Double((2, 2, 3))
        led = cube.led(((1, 0), (1, 1)))
        self.assertEqual(least_double(led), cube)
        for value in (("threefold", list(row)), ("threefold", row, row), ["threefold", row], ("threefold",), row,
                      ("Threefold", row), ("cube", row), ("threefold", (True, True, -1, -2)), (b"", row), ("", row),
                      ("threefold", (1, 1, -1)), ("threefold", row + (0,)), ("threefold", THIRD), (row, "threefold"),
                      ("threefold", None), ("threefold", str(row)), ("cube", THIRD), ("cube", first_class(-23)),
                      ("threefold", (LONG, 1, -1, -2)), {"threefold": row}, nested(8), None, True, 0, "cube"):
            self.assertIs(is_third_paper(THIRD, value), False)
        for value in (("cube", led), ("cube", (2, 2, 3)), ("cube", Form((2, 2, 3, 0))), ("threefold", cube),
                      ("cube", first_class(-20)), ("cube",), ("cube", cube, cube), ["cube", cube], (cube, "cube"),
                      ("cube", -cube), ("cube", str(cube)), ("cube", None), (None, cube), ((), cube)) + OBJECTS:
            self.assertIs(is_third_paper(cube, value), False)
        self.assertIs(is_third_paper(cube, ("cube", Double((2, 2, 3)))), True)


class Wrong(Refusals, unittest.TestCase):
    """[0.4], [0.7], and the errors of the stage"""

    def test_no_threefolds(self):
        for value in no_rows(4):
            for call in (small_hessian, form_of_threefold):
                self.refuses(InvalidOperation, {}, call, value)
            self.refuses(InvalidOperation, {}, threefold_led, value, IDLE)
            self.refuses(InvalidOperation, {}, threefold_led, value, None)

    def test_no_changes(self):
        for value in NO_CHANGES + LONG_CHANGES:
            if value != IDLE:
                self.refuses(InvalidChange, {}, threefold_led, (1, 1, -1, -2), value)

    def test_no_forms(self):
        for value in no_objects(Form):
            self.refuses(InvalidForm, {}, threefold_of_form, value)

    def test_no_doubles(self):
        for value in no_objects(Double):
            for call in CALLS:
                self.refuses(InvalidDouble, {}, call, value)

    def test_doubles_that_are_not_positive_and_primitive(self):
        for row in ((0, 0, 0), (0, 1, 0), (1, 2, 1), (1, 3, 1), (-1, 0, -1), (-2, 1, -3), (2, 0, 2), (2, 2, 2),
                    (0, 0, 1),
                    (-1001, 1, -100), (2000, 2, 2000), (2, 0, 200000), (1, LONGEST, 1), (LONGEST, 0, LONGEST)):
            for call in CALLS:
                self.refuses(InvalidOperation, {}, call, Double(row))

    def test_great_doubles(self):
        for row in ((1, 0, 25001), (1, 1, 25001), (1, 0, LONGEST), (1001, 0, 1000), (LONGEST, 1, 1), (2000, 1, 13)):
            for call in CALLS:
                self.refuses(TooMany, {"most": 100000}, call, Double(row))
        for row in ((1001, 1, 1), (1001, 0, 1), (25000, 0, 1)):
            for call in CALLS:
                self.refuses(TooMany, {"most": 1000}, call, Double(row))

    def test_the_bounds_are_let(self):
        for row in ((1, 0, 25000), (1, 1, 25000), (1000, 1, 1), (1000, 0, 1), (1000, 1, 25), (997, 1, 25)):
            self.assertTrue(is_third_paper(Double(row), third_paper(Double(row))))
        self.assertEqual(len(threefolds_of(Double((1, 0, 25000)))), 2)


class NotTrue(unittest.TestCase):
    """[15.5]"""

    def test_a_double_that_is_no_small_hessian(self):
        double = Double((2, 2, 3))
        self.assertEqual(threefolds_of(double), ())
        self.assertNotEqual(least_double(double), first_class(-20))
        self.assertEqual(power_of(double, 2), first_class(-20))

    def test_a_small_hessian_that_is_not_primitive(self):
        self.assertEqual(math.gcd(1, 1, -1, -1), 1)
        self.assertEqual(small_hessian((1, 1, -1, -1)), Double((2, 0, 2)))

    def test_two_threefolds_that_are_not_led(self):
        one, other = form_of_threefold((0, 1, 1, 0)), form_of_threefold((1, 1, 0, -1))
        self.assertEqual(small_hessian((0, 1, 1, 0)), small_hessian((1, 1, 0, -1)))
        self.assertEqual(small_hessian((0, 1, 1, 0)), Double((1, 1, 1)))
        self.assertEqual((len(one.roots()), len(other.roots()), are_led(one, other)), (3, 0, False))
        self.assertEqual([change for change in ways(one, other) if determinant(change) == 1], [])

    def test_not_a_third_of_all_classes(self):
        right = [double for double in classes_of(-23) if threefolds_of(double)]
        self.assertEqual((len(right), len(classes_of(-23))), (3, 3))
        self.assertEqual((thirds(-20), len(classes_of(-20))), (1, 2))


if __name__ == "__main__":
    unittest.main()
