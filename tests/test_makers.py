import itertools
import math
import unittest

from formrings.above.steps import is_greatest
from formrings.base.changes import changes_to, joined, undone
from formrings.base.lattices import lattice_index
from formrings.errors import InvalidForm, InvalidNumber, InvalidOperation, Refused
from formrings.form.forms import Form
from formrings.led.least import least_form
from formrings.listing.lists import fields_of
from formrings.makers import makers as module
from formrings.makers.makers import (
    all_makers, common_index, is_maker_way, maker_bar, maker_way, makers, ring_made)
from formrings.ring.rings import Ring, index_of
from tests.helper import (
    CUBIC, IDLE, LONG, LONGEST, NO_CHANGES, NO_INTEGERS, NOTHING, PLAIN, ROOT, ROUND, Refusals, determinant, no_objects,
    no_rows, numbers, product_form, rows_of, some_changes)

FORMS = [CUBIC, ROUND, PLAIN, ROOT, NOTHING, Form((0, 1, 1, 7)), Form((0, 0, 0, 1)), Form((1, 3, 3, 1)),
         Form((2, 3, 5, 4)), Form((5, 3, 1, 6)), Form((7, 0, 0, 5)), Form((-1, 0, 0, 1))]


def makers_by_words(form, most):
    sizes = range(-most, most + 1)
    return tuple((x, y) for x in sizes for y in sizes if form(x, y) in (1, -1))


def bar_by_words(form):
    """The least n for which no value leaves 1 or n - 1, over all rests of x and y."""
    for n in range(2, 61):
        rests = {form(x, y) % n for x in range(n) for y in range(n)}
        if not rests & {1, n - 1}:
            return n
    return None


class Examples(unittest.TestCase):
    def test_constants(self):
        self.assertEqual((module.MAX_MAKERS, module.MAX_MODULUS), (50, 60))

    def test_lines(self):
        self.assertEqual(
            [makers(CUBIC, 3), makers(PLAIN, 50), maker_bar(PLAIN), maker_bar(CUBIC), maker_bar(ROOT)],
            [((-1, 0), (-1, 1), (-1, 2), (0, -1), (0, 1), (1, -2), (1, -1), (1, 0)), (), 2, None, None])
        self.assertEqual(
            all_makers(Form((0, 1, 1, -1))), ((-2, 1), (-1, -1), (-1, 1), (0, -1), (0, 1), (1, -1), (1, 1), (2, -1)))
        self.assertEqual(
            ([common_index(Form(row)) for row in ((0, 1, 1, 0), (3, 0, 0, 6), (2, 3, 5, 4), (0, 0, 0, 0))],
             all_makers(PLAIN)), ([2, 3, 2, 0], ()))
        self.assertEqual(
            [is_maker_way(CUBIC, (1, -1), ((1, -1), (0, 1))), is_maker_way(CUBIC, (1, -2), ((1, -2), (0, 1))),
             ring_made((0, -1, -1)) == Ring(Form((1, 0, -1, -1)))], [True, False, True])
        with self.assertRaises(Refused) as caught:
            all_makers(Form((0, 0, 0, 1)))
        self.assertEqual(caught.exception.reason, ("endless",))


class Makers(unittest.TestCase):
    """[12.1]"""

    def test_all_pairs_to_the_bound(self):
        for form in FORMS + [Form(row) for row in rows_of(121, 25, 4, 3)]:
            for most in (1, 2, 7):
                self.assertEqual(makers(form, most), makers_by_words(form, most))
        for form in FORMS[:6]:
            self.assertEqual(makers(form, 50), makers_by_words(form, 50))

    def test_long_coefficients(self):
        great = Form((LONGEST, 0, 1 - LONGEST, 1))
        self.assertEqual(makers(great, 50), makers_by_words(great, 50))
        self.assertIn((1, -1), makers(Form((LONGEST, LONGEST - 1, 0, 0)), 50))

    def test_makers_at_the_border(self):
        # (x - y) taken three times.
        form = Form((1, -3, 3, -1))
        for most in (1, 2, 49, 50):
            self.assertEqual(makers(form, most), makers_by_words(form, most))
            self.assertIn((most, most - 1), makers(form, most))
            self.assertIn((1 - most, -most), makers(form, most))

    def test_the_ring_is_made_by_them_alone(self):
        for form in FORMS:
            ring = Ring(form)
            found = makers(form, 3)
            for x, y in itertools.product(range(-3, 4), repeat=2):
                z = ring.element((5, x, y))
                rows = ((1, 0, 0), z.entries, (z * z).entries)
                self.assertEqual((x, y) in found, index_of(z) == 1)
                if (x, y) in found:
                    self.assertEqual(lattice_index(rows), 1)

    def test_opposites(self):
        for form in FORMS:
            found = makers(form, 9)
            self.assertEqual(found, tuple(sorted((-x, -y) for x, y in found)))


class AllMakers(unittest.TestCase):
    """[12.5]"""

    def check(self, form, most):
        found = all_makers(form)
        self.assertEqual(list(found), sorted(set(found)))
        self.assertTrue(all(form(x, y) in (1, -1) for x, y in found))
        self.assertLessEqual(len(found), 8)
        near = tuple(pair for pair in found if max(abs(pair[0]), abs(pair[1])) <= most)
        self.assertEqual(near, makers_by_words(form, most))
        return found

    def test_one_root(self):
        for double in itertools.product(range(-2, 3), range(-3, 4), range(-2, 3)):
            for root in ((1, 0), (0, 1), (2, 3), (-3, 1)):
                form = product_form(root, double)
                if form and not self.is_endless(form):
                    self.check(form, 9)

    def is_endless(self, form):
        return len(form.roots()) == 1 and form.discriminant == 0 and form.content == 1 and not any(
            form.hessian.coefficients)

    def test_three_roots(self):
        for i, j in itertools.product(range(-3, 4), repeat=2):
            form = product_form((1, 0), (1, i, 0)).led(((1, j), (0, 1)))
            self.assertGreaterEqual(len(form.roots()), 2)
            self.check(form, 12)
        self.assertEqual(self.check(Form((0, 1, 2, 0)), 9), ((-1, 1), (1, -1)))
        self.assertEqual(self.check(Form((0, 1, 0, -1)), 9), ((0, -1), (0, 1)))

    def test_a_line_taken_twice(self):
        self.assertEqual(self.check(Form((0, 0, 1, 0)), 9), ((-1, -1), (-1, 1), (1, -1), (1, 1)))
        self.assertEqual(self.check(Form((0, 0, 2, 1)), 9), ((-1, 1), (0, -1), (0, 1), (1, -1)))
        self.assertEqual(self.check(Form((0, 0, 3, 1)), 9), ((0, -1), (0, 1)))
        self.assertEqual(self.check(Form((0, 0, 5, 2)), 9), ())
        self.assertEqual(self.check(Form((4, 0, -3, 1)), 30), all_makers(Form((4, 0, -3, 1))))

    def test_a_line_taken_three_times(self):
        for change in some_changes(122, 20):
            for number in (2, -3, 8):
                self.assertEqual(all_makers(Form((0, 0, 0, number)).led(change)), ())
            for number in (1, -1):
                with self.assertRaises(Refused) as caught:
                    all_makers(Form((number, 0, 0, 0)).led(change))
                self.assertEqual(caught.exception.reason, ("endless",))

    def test_eight(self):
        self.assertEqual(len(all_makers(Form((0, 1, 1, -1)))), 8)
        self.assertEqual(len(self.check(Form((0, 1, 3, 1)), 12)), 8)

    def test_far_from_the_origin(self):
        for change in some_changes(123, 40):
            for form in (Form((0, 1, 1, -1)), Form((0, 0, 2, 1)), Form((0, 1, 0, -1)), Form((1, 0, 0, 1))):
                (p, q), (r, s) = undone(change)
                led = form.led(change)
                self.assertEqual(
                    all_makers(led), tuple(sorted((x * p + y * r, x * q + y * s) for x, y in all_makers(form))))
        # x y y + y y y times LONGEST: at (1 - LONGEST, 1).
        self.assertIn((1 - LONGEST, 1), all_makers(Form((0, 0, 1, LONGEST))))
        self.assertIn((LONGEST, 1), all_makers(Form((0, 1, -LONGEST, 1))))

    def test_forms_without_makers(self):
        self.assertEqual(all_makers(Form((0, 1, 1, 7))), ())
        self.assertEqual(all_makers(Form((0, 3, 6, 9))), ())


class Bars(unittest.TestCase):
    """[12.3], [12.4]"""

    def test_against_all_rests(self):
        rows = list(rows_of(124, 25, 4, 9)) + [(k, 0, 0, m) for k in range(4) for m in (0, 1, 3, 6, 8)]
        # With the content a prime, with roots taken three times modulo a prime, and with values that 9 tells.
        rows += [(5, 10, 0, 15), (7, 14, 7, 28), (2, 7, 14, 7), (3, 13, 26, 13), (2, 9, 9, 18), (2, 3, 3, 9),
                 (4, 9, 0, 9), (2, 19, 38, 57), (59, 118, 0, 59), (31, 0, 0, 31), (3, 31, 31, 62), (9, 0, 0, 2),
                 (1, 9, 9, 9), (8, 27, 27, 9), (1, 0, 0, 6), (2, 43, 0, 86), (5, 43, 0, 43), (10, 9, 3, 4)]
        found = set()
        for row in rows:
            bar = maker_bar(Form(row))
            found.add(bar)
            self.assertEqual(bar, bar_by_words(Form(row)), row)
        self.assertLessEqual({None, 2, 3, 5, 7, 9, 13, 19, 31, 43, 59}, found)

    def test_each_prime(self):
        # x y y has each integer as a value.
        for n in range(2, 62):
            prime = all(n % divisor for divisor in range(2, n))
            least = next(divisor for divisor in range(2, n + 1) if n % divisor == 0)
            self.assertEqual(maker_bar(Form((0, 0, n, 0))), least if least <= 60 else None)
            self.assertEqual(prime, least == n)
            self.assertIsNone(maker_bar(Form((0, 0, 61 * 61, 0))))

    def test_no_makers_behind_a_bar(self):
        for form in [Form(row) for row in rows_of(125, 60, 4, 5)]:
            if maker_bar(form) is not None:
                self.assertEqual(makers(form, 6), ())

    def test_long_coefficients(self):
        for row in ((LONGEST, 1, 1, 10 ** 59), (10 ** 59, 0, 0, 10 ** 58), (59 * 10 ** 50 + 59, 118, 0, 59 * 3 ** 90),
                    (LONGEST, LONGEST, LONGEST, LONGEST), (10 ** 50, 9 ** 50, 9 ** 51, 4 * 9 ** 52)):
            self.assertEqual(maker_bar(Form(row)), bar_by_words(Form(row)))

    def test_the_common_index(self):
        for row in list(rows_of(126, 150, 4, 6)) + [(0, 0, 0, 0), (2, 1, 1, 2), (4, 2, 2, 8), (6, 9, 3, 12)]:
            form = Form(row)
            values = [form(x, y) for x in range(-3, 4) for y in range(-3, 4)]
            index = common_index(form)
            self.assertEqual(index, math.gcd(*values))
            self.assertIn(index, (form.content, 2 * form.content))
            if form:
                a, b, c, d = [number // form.content for number in row]
                self.assertEqual(index == 2 * form.content, (a % 2, b % 2, c % 2, d % 2) == (0, 1, 1, 0))
            if index != 1 and index <= 60:
                n = index if index else 2
                self.assertFalse({value % n for value in values} & {1, n - 1})
        self.assertEqual(common_index(Form((LONGEST, 0, 0, LONGEST))), LONGEST)

    def test_the_index_of_all_elements(self):
        # [0.13]: all indices are even exactly for x y (x + y) modulo 2, or an even content.
        for row in itertools.product(range(2), repeat=4):
            self.assertEqual(common_index(Form(row)) % 2 == 0, row in ((0, 1, 1, 0), (0, 0, 0, 0)))


class Ways(Refusals, unittest.TestCase):
    """[12.2]"""

    def pairs(self):
        for form in FORMS + [Form(row) for row in rows_of(127, 20, 4, 3)]:
            for pair in makers(form, 6):
                yield form, pair

    def test_a_way_for_each_maker(self):
        for form, pair in self.pairs():
            change = maker_way(form, pair)
            self.assertEqual(change[0], pair)
            self.assertEqual(form.led(change)[0], 1)
            self.assertIs(is_maker_way(form, pair, change), True)

    def test_all_small_changes_judged(self):
        for form in FORMS[:4] + [Form((0, 0, 0, 1))]:
            for pair in makers(form, 2):
                for change in changes_to(2):
                    right = change[0] == pair and form.led(change)[0] == 1
                    self.assertIs(is_maker_way(form, pair, change), right)

    def test_integers_changed(self):
        for form, pair in self.pairs():
            (p, q), (r, s) = maker_way(form, pair)
            for k in (1, -4, 10 ** 80):
                self.assertTrue(is_maker_way(form, pair, ((p, q), (r + k * p, s + k * q))))
            self.assertFalse(is_maker_way(form, pair, ((p, q), (-r, -s))))
            self.assertFalse(is_maker_way(form, pair, ((-p, -q), (r, s))))
            self.assertFalse(is_maker_way(form, pair, ((-p, -q), (-r, -s))))
            self.assertFalse(is_maker_way(form, pair, ((p, q), (r + q, s - p))))

    def test_long_makers(self):
        for change in (((LONGEST, 1), (LONGEST - 1, 1)), ((1, LONGEST), (0, 1)), ((10 ** 59 + 1, 10 ** 59), (1, 1))):
            form = Form((0, 0, 0, 1)).led(change)
            (p, q), (r, s) = undone(change)
            for pair in ((r, s), (p + r, q + s)):
                if max(abs(pair[0]), abs(pair[1])) < LONG:
                    found = maker_way(form, pair)
                    self.assertTrue(all(abs(number) < LONG for row in found for number in row))
                    self.assertTrue(is_maker_way(form, pair, found))
                    self.assertEqual(form.led(found)[0], 1)

    def test_values_that_are_no_changes(self):
        for value in NO_CHANGES + (IDLE + ((1, 0),), ((1, True), (0, 1)), [[1, 0], [0, 1]], ((1.0, 0), (0, 1))):
            if value != IDLE:
                self.assertIs(is_maker_way(CUBIC, (1, 0), value), False)
                self.assertIs(is_maker_way(CUBIC, (0, 1), value), False)
        self.assertIs(is_maker_way(CUBIC, (1, 0), IDLE), True)
        self.assertIs(is_maker_way(CUBIC, (0, 1), ((0, 1), (True, 0))), False)
        self.assertIs(is_maker_way(CUBIC, (0, 1), ((0, 1), (-1, 0))), True)

    def test_makers_go_with_changes(self):
        for change in some_changes(128, 30):
            (p, q), (r, s) = change
            for form in (CUBIC, ROUND, PLAIN, Form((0, 1, 1, -1))):
                for x, y in itertools.product(range(-3, 4), repeat=2):
                    right = form(p * x + r * y, q * x + s * y) in (1, -1)
                    self.assertEqual((x, y) in makers(form.led(change), 3), right)

    def test_forms_with_makers_are_alike_to_told_ones(self):
        for form, pair in self.pairs():
            led = form.led(maker_way(form, pair))
            self.assertEqual(led[0], 1)
            self.assertEqual(least_form(led), least_form(form))


class Made(Refusals, unittest.TestCase):
    """[12.2]"""

    def test_rings(self):
        for b, c, d in rows_of(129, 40, 3, 30) + [(LONGEST, -LONGEST, 1)]:
            ring = ring_made((b, c, d))
            self.assertEqual(ring, Ring(Form((1, b, c, d))))
            h = -ring.w()
            one = ring.one()
            self.assertFalse(bool(h * h * h + (h * h).scaled(b) + h.scaled(c) + one.scaled(d)))
            self.assertEqual(index_of(h), 1)

    def test_wrong_polynomials(self):
        for value in no_rows(3):
            self.refuses(InvalidOperation, {}, ring_made, value)


class Wrong(Refusals, unittest.TestCase):
    """[0.4], [0.7], and the errors of the stage"""

    def test_no_forms(self):
        for value in no_objects(Form):
            self.refuses(InvalidForm, {}, makers, value, 3)
            self.refuses(InvalidForm, {}, makers, value, 0)
            for call in (all_makers, maker_bar, common_index):
                self.refuses(InvalidForm, {}, call, value)
            self.refuses(InvalidForm, {}, maker_way, value, (1, 0))
            self.refuses(InvalidForm, {}, maker_way, value, None)
            self.refuses(InvalidForm, {}, is_maker_way, value, (1, 0), IDLE)
            self.refuses(InvalidForm, {}, is_maker_way, value, None, None)

    def test_wrong_bounds(self):
        for value in (0, 51, -1, LONGEST) + NO_INTEGERS:
            for form in (CUBIC, NOTHING):
                self.refuses_number(InvalidNumber, value, makers, form, value)
        self.assertEqual((len(makers(CUBIC, 1)), len(makers(PLAIN, 50))), (6, 0))

    def test_forms_without_roots(self):
        for form in (NOTHING, CUBIC, ROUND, ROOT, CUBIC.times(2), Form((LONGEST, 1, 1, 1))):
            self.refuses(InvalidOperation, {}, all_makers, form)

    def test_pairs_that_are_no_makers(self):
        for value in no_rows(2) + [(0, 0), (2, 0), (1, 1), (2, -1)]:
            self.refuses(InvalidOperation, {}, maker_way, CUBIC, value)
            self.refuses(InvalidOperation, {}, is_maker_way, CUBIC, value, IDLE)
            self.refuses(InvalidOperation, {}, is_maker_way, NOTHING, value, None)
        for value in ((LONG, 1), (1, -LONG), (True, 0), (1, False)):
            self.refuses(InvalidOperation, {}, maker_way, Form((0, 0, 0, 1)), value)
            self.refuses(InvalidOperation, {}, maker_way, Form((1, 0, 0, 0)), value)
        for x, y in itertools.product(range(-4, 5), repeat=2):
            if PLAIN(x, y) not in (1, -1):
                self.refuses(InvalidOperation, {}, maker_way, PLAIN, (x, y))


class NotTrue(unittest.TestCase):
    """[12.6]"""

    def test_no_maker_and_no_bar(self):
        form = Form((0, 1, 1, 7))
        self.assertEqual((maker_bar(form), all_makers(form)), (None, ()))

    def test_a_greatest_ring_without_makers(self):
        form, = fields_of(-503)
        self.assertEqual((is_greatest(form), common_index(form), maker_bar(form), makers(form, 50)), (True, 2, 2, ()))

    def test_alike_forms_with_unlike_makers(self):
        change = joined(((1, 0), (1, 1)), ((0, 1), (1, 0)))
        self.assertIn(determinant(change), (1, -1))
        self.assertNotEqual(makers(CUBIC, 9), makers(CUBIC.led(change), 9))
        self.assertEqual(least_form(CUBIC.led(change)), CUBIC)

    def test_makers_of_drawn_forms_with_roots(self):
        source = numbers(120)
        for _ in range(100):
            form = Form((0,) + tuple(source.randint(-4, 4) for _ in range(3)))
            if form and form.hessian.coefficients != (0, 0, 0):
                near = [pair for pair in all_makers(form) if max(abs(pair[0]), abs(pair[1])) <= 9]
                self.assertEqual(tuple(near), makers(form, 9))


if __name__ == "__main__":
    unittest.main()
