import itertools
import unittest

from formrings.base.changes import IDLE, changes_to, is_change, joined, undone
from formrings.errors import InvalidChange, InvalidForm, InvalidOperation, TooMany
from formrings.form.forms import Form
from formrings.led import ways as module
from formrings.led.least import least_form, way_to_least
from formrings.led.ways import are_led, images, is_way, parting, turns, way, ways
from formrings.ring.rings import Ring
from tests.helper import (
    CUBIC, LONG, LONG_CHANGES, LONGEST, NO_CHANGES, NOTHING, PLAIN, ROOT, ROUND, Refusals, determinant, no_objects,
    numbers, product_form, rows_of, some_changes)

TWENTY = 10 ** 20
BACK = ((-1, 0), (0, -1))
TURN = ((-1, 1), (-1, 0))
FLAT = Form((0, 0, 1, 0))
PAIRS = (are_led, parting, way, ways)
# For each sign of the discriminant and each number of roots: forms with all numbers of turns that there are.
FORMS = {
    (1, 0, 1): (Form((1, 0, -4, -1)), Form((1, 1, -3, -1)), Form((1, -1, -5, -1))),
    (1, 0, 3): (ROUND, Form((1, 1, -2, -1)), Form((1, 0, -3, -1)), Form((2, 4, -2, -2))),
    (1, 1, 1): (Form((0, 2, 1, -2)), Form((0, 3, 1, -1)).led(((1, 2), (1, 3)))),
    (1, 1, 2): (Form((0, 1, 0, -2)), Form((0, 1, 1, -4)), Form((0, 1, 1, -1)).led(((1, 1), (1, 2)))),
    (1, 3, 1): (Form((0, 2, 1, -1)), product_form((0, 1), (3, 1, -2)), Form((0, 4, 3, -1))),
    (1, 3, 2): (Form((0, 1, 0, -1)), Form((0, 1, 3, 0)), Form((0, 2, 2, -4))),
    (1, 3, 6): (PLAIN, Form((0, 5, 5, 0)), PLAIN.led(((2, 1), (1, 1))), Form((2, 3, -3, -2))),
    (-1, 0, 1): (CUBIC, ROOT, Form((3, 5, 7, 6)), Form((1, 0, 0, 7))),
    (-1, 1, 1): (Form((0, 3, 1, 5)), Form((0, 5, 2, 7)), Form((0, 2, 1, 1))),
    (-1, 1, 2): (Form((0, 1, 1, 6)), Form((0, 1, 0, 503)), Form((0, 2, 2, 3))),
}


def all_forms():
    return [form for forms in FORMS.values() for form in forms]


def some_pairs(seed):
    """Pairs of a form and of one to which it is led, with discriminants of all kinds."""
    rows = rows_of(seed, 25, 4, 6) + [(0, 0, 1, 0), (0, 0, 3, 1), (0, 0, 0, 2), (0, 0, 4, 2), (0, 0, 0, 0)]
    forms = [Form(row) for row in rows] + all_forms()
    return [(form, form.led(change)) for form, change in zip(forms, some_changes(seed + 1, len(forms)))]


class Examples(unittest.TestCase):
    def test_constant(self):
        self.assertEqual(module.MOST_DIGITS, 20)

    def test_lines(self):
        self.assertEqual(
            [turns(CUBIC), turns(ROUND), len(turns(PLAIN)), turns(ROOT)],
            [(((1, 0), (0, 1)),), (((-1, 1), (-1, 0)), ((0, -1), (1, -1)), ((1, 0), (0, 1))), 6, (((1, 0), (0, 1)),)])
        other = Form((1, 1, -2, -1))
        self.assertEqual(
            [are_led(ROUND, other), is_way(ROUND, other, way(ROUND, other)), len(ways(ROUND, other)),
             parting(CUBIC, Form((0, 1, 1, 6))) == (CUBIC, Form((0, 1, 1, 6)))],
            [True, True, 3, True])
        self.assertEqual(
            [is_way(CUBIC, -CUBIC, ((-1, 0), (0, -1))), is_way(PLAIN, PLAIN, ((0, -1), (-1, 0))),
             is_way(PLAIN, PLAIN, ((0, 1), (1, 0))), way(PLAIN, ROUND)],
            [True, True, False, None])
        self.assertEqual(images(ROUND, ROUND, ((-1, 1), (-1, 0))), ((1, -1, 1), (1, -1, 0)))
        with self.assertRaises(InvalidOperation):
            turns(Form((0, 0, 1, 0)))


class Led(unittest.TestCase):
    """[5.1]"""

    def test_forms_that_are_led(self):
        for one, other in some_pairs(81):
            for first, second in ((one, other), (other, one), (one, one), (one, -other)):
                self.assertIs(are_led(first, second), True)
                self.assertIsNone(parting(first, second))
                found = way(first, second)
                self.assertTrue(is_change(found))
                self.assertEqual(first.led(found), second)
                self.assertIs(is_way(first, second, found), True)
            self.assertIs(is_way(one, one, IDLE), True)

    def test_along_several_changes(self):
        for one, other in some_pairs(83):
            third = other.led(((1, 3), (0, -1))).led(((2, 1), (1, 1)))
            there, on = way(one, other), way(other, third)
            self.assertIs(is_way(one, third, joined(there, on)), True)
            self.assertIs(is_way(other, one, undone(there)), True)
            self.assertIs(are_led(one, third), True)

    def test_forms_that_are_not_led(self):
        rows = [row for row in itertools.product(range(-1, 3), repeat=4)][::7]
        forms = [Form(row) for row in rows] + [Form((0, 0, c, d)) for c in range(4) for d in range(3)]
        for one in forms:
            for other in forms[::5]:
                least = (least_form(one), least_form(other))
                alike = least[0] == least[1]
                self.assertIs(are_led(one, other), alike)
                self.assertEqual(parting(one, other), None if alike else least)
                self.assertEqual(way(one, other) is None, not alike)

    def test_great_coefficients(self):
        source = numbers(85)
        for form in all_forms() + [FLAT, Form((0, 0, 5, 2)), Form((0, 0, 0, 1))]:
            k, m, n = [source.choice((-1, 1)) * source.randint(10, 80) for _ in range(3)]
            one = form.led(((1, k), (0, 1))).led(((1, 0), (m, -1)))
            other = form.led(((1, 0), (n, 1))).led(((1, -k), (0, 1))).led(((0, 1), (1, 0)))
            found = way(one, other)
            self.assertEqual(one.led(found), other)
            self.assertTrue(all(abs(number) < LONG for row in found for number in row))

    def test_twenty_digits_at_both_ends(self):
        most = TWENTY - 1
        for one in (Form((most, -most, most, most)), Form((0, most, 1, most)), Form((0, most, most, -most)),
                    product_form((10 ** 9 + 7, 10 ** 9), (10 ** 10, 1, 10 ** 10)), Form((0, 0, most, most))):
            for change in (((0, 1), (1, 0)), ((1, 0), (0, -1)), BACK):
                other = one.led(change)
                found = way(one, other)
                self.assertEqual(one.led(found), other)
                self.assertTrue(all(abs(number) < LONG for row in found for number in row))


class Judged(unittest.TestCase):
    """[5.1], [0.5]"""

    def test_each_way_and_what_is_near(self):
        for one, other in some_pairs(86):
            for found in (way(one, other), joined(way_to_least(one), undone(way_to_least(other)))):
                self.assertIs(is_way(one, other, found), True)
                (p, q), (r, s) = found
                near = [((p + 1, q), (r, s)), ((p, q - 1), (r, s)), ((p, q), (r, s + 1)), ((q, p), (s, r)),
                        ((r, s), (p, q)), ((p, r), (q, s)), ((-p, -q), (-r, -s)), undone(found), joined(found, TURN)]
                for value in near:
                    right = is_change(value) and one.led(value) == other
                    self.assertIs(is_way(one, other, value), right, (one.coefficients, value))

    def test_integers_of_any_length(self):
        great = ((1, 0), (10 ** 5000, 1))
        self.assertIs(is_way(Form((0, 0, 0, 1)), Form((0, 0, 0, 1)), great), True)
        self.assertIs(is_way(FLAT, FLAT, great), False)
        self.assertIs(is_way(NOTHING, NOTHING, ((10 ** 5000, 1), (-1, 0))), True)
        self.assertIs(is_way(NOTHING, NOTHING, ((10 ** 5000, 1), (1, 1))), False)

    def test_no_changes(self):
        for form in (NOTHING, CUBIC, PLAIN):
            for value in NO_CHANGES:
                self.assertIs(is_way(form, form, value), False, value)

    def test_true_is_not_1(self):
        for value in (((True, 0), (0, 1)), ((1, False), (0, 1)), ((1, 0), (0, True))):
            self.assertIs(is_way(CUBIC, CUBIC, value), False)


class Turns(unittest.TestCase):
    """[5.2]"""

    def test_their_numbers(self):
        for (sign, roots, many), forms in FORMS.items():
            for form in forms:
                self.assertEqual((form.discriminant > 0, len(form.roots())), (sign > 0, roots), form.coefficients)
                for change in [IDLE] + some_changes(87, 6):
                    self.assertEqual(len(turns(form.led(change))), many, form.coefficients)

    def test_against_all_small_changes(self):
        for row in rows_of(88, 60, 4, 3) + [form.coefficients for form in all_forms()]:
            form = Form(row)
            if form.discriminant == 0:
                continue
            found = turns(form)
            self.assertEqual(list(found), sorted(found))
            self.assertEqual([change for change in changes_to(4) if form.led(change) == form],
                             [change for change in found if max(abs(n) for pair in change for n in pair) <= 4])
            for change in found:
                self.assertEqual(form.led(change), form)

    def test_joined_and_undone_ones(self):
        for form in all_forms():
            found = turns(form)
            self.assertIn(IDLE, found)
            self.assertNotIn(BACK, found)
            for one in found:
                self.assertIn(undone(one), found)
                for other in found:
                    self.assertIn(joined(one, other), found)
                if one != IDLE:
                    twice = joined(one, one)
                    self.assertEqual(IDLE, twice if determinant(one) == -1 else joined(twice, one))

    def test_ways(self):
        for form in all_forms():
            for change in some_changes(89, 8):
                other = form.led(change)
                found = ways(form, other)
                self.assertEqual(list(found), sorted(set(found)))
                self.assertEqual(len(found), len(turns(form)))
                self.assertIn(change, found)
                for each in found:
                    self.assertEqual(form.led(each), other)

    def test_no_ways(self):
        self.assertEqual(ways(CUBIC, Form((0, 1, 1, 6))), ())
        self.assertEqual(ways(PLAIN, ROUND), ())
        self.assertEqual(ways(CUBIC, CUBIC.times(2)), ())
        self.assertEqual(ways(CUBIC, CUBIC.times(-1)), (BACK,))


class Images(unittest.TestCase):
    """[5.3]"""

    def test_products_are_told_by_the_other_form(self):
        for one, other in some_pairs(91) + [(form, form) for form in all_forms()]:
            ring, told = Ring(one), Ring(other)
            found = [way(one, other)] if one.discriminant == 0 else ways(one, other)
            for change in found:
                first, second = images(one, other, change)
                self.assertEqual((first[1:], second[1:]), change)
                w, t = ring.element(first), ring.element(second)

                def image(element, w=w, t=t):
                    u, x, y = element.entries
                    return ring.one().scaled(u) + w.scaled(x) + t.scaled(y)
                for left, right, value in (
                        (w, w, told.w() * told.w()), (w, t, told.w() * told.t()), (t, t, told.t() * told.t())):
                    self.assertEqual(left * right, image(value))

    def test_by_the_words(self):
        for one, other in some_pairs(93):
            (p, q), (r, s) = change = way(one, other)
            a, b, c, d = one.coefficients
            e = p * s - q * r
            u = e * (p * (p * r * a + q * s * c) + q * (p * r * b + q * s * d))
            v = -e * (s * (p * r * b + q * s * d) + r * (p * r * a + q * s * c))
            self.assertEqual(images(one, other, change), ((u, p, q), (v, r, s)))

    def test_the_idle_change(self):
        for form in all_forms() + [NOTHING, FLAT]:
            self.assertEqual(images(form, form, IDLE), ((0, 1, 0), (0, 0, 1)))


class Refused(Refusals, unittest.TestCase):
    """[0.4], [0.7], and the errors of the stage"""

    def test_wrong_forms(self):
        for value in no_objects(Form):
            for call in PAIRS:
                self.refuses(InvalidForm, {}, call, value, CUBIC)
                self.refuses(InvalidForm, {}, call, CUBIC, value)
                self.refuses(InvalidForm, {}, call, FLAT, value)
                self.refuses(InvalidForm, {}, call, Form((TWENTY, 0, 0, 0)), value)
                self.refuses(InvalidForm, {}, call, value, Form((TWENTY, 0, 0, 0)))
            for call in (is_way, images):
                self.refuses(InvalidForm, {}, call, value, CUBIC, IDLE)
                self.refuses(InvalidForm, {}, call, CUBIC, value, None)
                self.refuses(InvalidForm, {}, call, Form((TWENTY, 0, 0, 0)), value, IDLE)
            self.refuses(InvalidForm, {}, turns, value)

    def test_too_many_digits(self):
        for row in ((TWENTY, 0, 0, 1), (0, -TWENTY, 0, 1), (1, 0, LONGEST, 0), (0, 0, 0, 10 ** 59)):
            great = Form(row)
            for call in PAIRS:
                for one, other in ((great, CUBIC), (CUBIC, great), (great, great), (great, FLAT), (FLAT, great)):
                    self.refuses(TooMany, {"most": 20}, call, one, other)
            for value in (IDLE, None, ((1, 1), (1, 1))):
                self.refuses(TooMany, {"most": 20}, images, great, great, value)
                self.refuses(TooMany, {"most": 20}, images, CUBIC, great, value)
                self.refuses(TooMany, {"most": 20}, is_way, great, great, value)
            self.refuses(TooMany, {"most": 20}, turns, great)

    def test_nineteen_and_twenty_digits_are_let(self):
        form = Form((TWENTY - 1, 0, 1 - TWENTY, 1))
        self.assertEqual((len(turns(form)), ways(form, form), are_led(form, form)), (1, (IDLE,), True))

    def test_the_discriminant_0(self):
        for form in (FLAT, NOTHING, Form((0, 0, 0, 1)), Form((4, 0, -3, 1))):
            self.refuses(InvalidOperation, {}, turns, form)
            for one, other in ((form, form), (form, CUBIC), (CUBIC, form)):
                self.refuses(InvalidOperation, {}, ways, one, other)
            self.assertIs(are_led(form, form), True)
            self.assertIs(are_led(form, CUBIC), False)

    def test_changes_that_are_no_ways(self):
        for value in NO_CHANGES + LONG_CHANGES + (BACK, TURN, ((1, 1), (0, 1))):
            self.refuses(InvalidChange, {}, images, CUBIC, CUBIC, value)
        self.refuses(InvalidChange, {}, images, CUBIC, ROUND, IDLE)
        self.refuses(InvalidChange, {}, images, NOTHING, NOTHING, ((1, LONG), (0, 1)))
        self.assertEqual(images(NOTHING, NOTHING, ((1, LONGEST), (0, 1))), ((0, 1, LONGEST), (0, 0, 1)))


class NotTrue(unittest.TestCase):
    """[5.4], [0.12], [0.18]"""

    def test_equal_discriminants(self):
        other = Form((0, 1, 1, 6))
        self.assertEqual(CUBIC.discriminant, other.discriminant)
        self.assertIs(are_led(CUBIC, other), False)

    def test_equal_hessians(self):
        one, other = Form((1, 0, 0, 6)), Form((2, 0, 0, 3))
        self.assertEqual(one.hessian, other.hessian)
        self.assertIs(are_led(one, other), False)

    def test_square_discriminants(self):
        self.assertEqual(Form((0, 2, 1, -1)).discriminant, 36)
        self.assertEqual(turns(Form((0, 2, 1, -1))), (IDLE,))

    def test_either_sequence(self):
        found = turns(PLAIN)
        self.assertTrue(any(joined(one, other) != joined(other, one) for one in found for other in found))

    def test_no_turn_leads_to_the_opposite(self):
        self.assertNotIn(BACK, turns(CUBIC))
        self.assertEqual(ways(CUBIC, -CUBIC), (BACK,))

    def test_forms_with_turns_of_order_three(self):
        for (_, _, many), forms in FORMS.items():
            for form in forms:
                found = [form.led(change).coefficients for change in changes_to(4)]
                shaped = any(c == b - 3 * a and d == -a for a, b, c, d in found)
                self.assertIs(shaped, many % 3 == 0, form.coefficients)

    def test_turns_of_order_three(self):
        for a in range(-3, 4):
            for b in range(-4, 5):
                form = Form((a, b, b - 3 * a, -a))
                if form.discriminant != 0:
                    self.assertTrue(any(joined(one, one) != IDLE for one in turns(form) if one != IDLE))


if __name__ == "__main__":
    unittest.main()
