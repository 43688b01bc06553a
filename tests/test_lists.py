import inspect
import itertools
import unittest

from formrings.above.steps import greatest, is_greatest
from formrings.base.integers import is_fundamental
from formrings.errors import InvalidNumber, InvalidOperation
from formrings.form.forms import Form
from formrings.led.least import is_least, least_form
from formrings.listing import lists
from formrings.listing.lists import fields_of, rings_of, rings_to, with_roots
from formrings.ring.rings import Ring
from tests.helper import LONG, LONGEST, NO_INTEGERS, NO_TUPLES, Refusals, nested

MOST = 100000
GREAT = (MOST, -MOST, 99997, -99999, 99856, 99225, -99996, -65536, 65536, -91125, 50000, -50000, -3 ** 9 * 4)
FUNCTIONS = (rings_of, with_roots, fields_of)


def told(forms):
    return [str(form) for form in forms]


def is_ordered(forms):
    rows = [form.coefficients for form in forms]
    return isinstance(forms, tuple) and all(one < other for one, other in zip(rows, rows[1:]))


class Examples(unittest.TestCase):
    def test_constants(self):
        self.assertEqual((lists.MAX_DISCRIMINANT, lists.MAX_LISTED), (100000, 300))

    def test_lines(self):
        self.assertEqual(
            [told(rings_of(number)) for number in (1, 49, -23, -27, 3)],
            [['(0, 1, 1, 0)'], ['(0, 1, 1, -12)', '(1, 2, -1, -1)'], ['(0, 1, 1, 6)', '(1, 1, 2, 1)'],
             ['(0, 1, 1, 7)', '(0, 3, 3, 1)'], []])
        self.assertEqual(
            [told(fields_of(number)) for number in (-3299, -2012, -108, 49)],
            [['(1, 1, 9, 8)', '(1, 2, 4, 13)', '(1, 3, 5, 14)', '(3, 5, 7, 6)'], [], ['(1, 3, 3, 3)'],
            ['(1, 2, -1, -1)']])
        self.assertEqual(
            [told(with_roots(number)) for number in (16, -2012)],
            [['(0, 1, 0, -4)', '(0, 2, 2, 0)'], ['(0, 1, 0, 503)', '(0, 2, 1, 63)']])
        self.assertEqual(
            [len(rings_of(-2012)),
             [(number, len(forms)) for number, forms in rings_to(24, below=True).items() if len(forms) > 1],
             list(rings_to(13))],
            [5, [(-23, 2), (-16, 2)], [1, 4, 5, 8, 9, 12, 13]])
        with self.assertRaises(InvalidNumber) as caught:
            rings_of(0)
        self.assertEqual(caught.exception.given, 0)

    def test_below_the_only_ring_of_503(self):
        rows = [form for form in rings_of(-2012) if not form.roots()]
        self.assertEqual([greatest(form) for form in rows], [(fields_of(-503)[0], 2)] * 3)
        self.assertEqual(len(fields_of(-503)), 1)


class Lists(unittest.TestCase):
    """[6.1], [0.16]"""

    def check(self, number):
        forms = rings_of(number)
        self.assertTrue(is_ordered(forms), number)
        for form in forms:
            self.assertIs(type(form), Form)
            self.assertEqual(form.discriminant, number)
            self.assertIs(is_least(form), True)
        self.assertEqual(with_roots(number), tuple(form for form in forms if form.roots()))
        self.assertEqual(fields_of(number), tuple(form for form in forms if not form.roots() and is_greatest(form)))
        return forms

    def test_small_discriminants_against_all_small_forms(self):
        classes = {}
        for row in itertools.product(range(4), range(-4, 6), range(-8, 9), range(-40, 41)):
            number = Form(row).discriminant
            if 0 < abs(number) <= 150:
                classes.setdefault(number, set()).add(least_form(Form(row)).coefficients)
        for number in range(-150, 151):
            if number != 0:
                forms = self.check(number)
                self.assertEqual({form.coefficients for form in forms}, classes.get(number, set()), number)

    def test_remainders_by_four(self):
        for number in list(range(-60, 0)) + list(range(1, 60)) + list(GREAT):
            forms = rings_of(number)
            if number % 4 > 1:
                self.assertEqual(forms, ())
            else:
                rest = number % 4
                self.assertIn(Form((0, 1, rest, (rest - number) // 4)), forms)

    def test_great_discriminants(self):
        for number in GREAT:
            self.assertEqual(len(self.check(number)) > 0, number % 4 < 2)

    def test_lists_near_the_bounds(self):
        for number, rows in (
                (-99999, [(0, 1, 1, 25000), (0, 3, 1, 926)]),
                (-100000, [(0, 1, 0, 25000), (0, 2, 0, 3125), (0, 5, 0, 200), (0, 10, 0, 25)]),
                (100000, [(0, 1, 0, -25000), (0, 2, 0, -3125), (0, 5, 0, -200), (0, 10, 0, -25)]),
                (99997, [(0, 1, 1, -24999), (3, -7, -19, 0)]),
                (-99468, [(0, 1, 0, 24867), (0, 3, 0, 921), (3, 3, 21, 3), (3, 5, 7, 23), (3, 9, -6, 12),
                (3, 9, 21, 33),
                          (3, 12, 18, 30), (5, 1, 17, 3), (5, 14, 15, 18), (7, 16, 22, 18)]),
                (-99776, [(0, 1, 0, 24944), (0, 2, 0, 3118), (0, 4, 2, 390), (0, 8, 3, 49), (2, 10, 12, 32),
                (4, 0, 17, 7),
                          (4, 6, 20, 16), (4, 10, 4, 14), (4, 16, 17, 19), (7, 2, 15, 4)]),
                (98304, [(0, 1, 0, -24576), (0, 2, 0, -3072), (0, 4, 0, -384), (0, 4, 4, -383), (0, 8, 0, -48),
                         (0, 8, 8, -46), (0, 16, 0, -6), (0, 16, 8, -5), (0, 16, 16, -2)]),
                (99225, [(0, 1, 1, -24806), (0, 3, 3, -918), (0, 5, 3, -198), (0, 7, 3, -72), (0, 9, 1, -34),
                         (0, 15, 9, -6), (2, 7, -17, -10), (3, 9, -12, -11)])):
            self.assertEqual([form.coefficients for form in rings_of(number)], rows)

    def test_forms_with_great_coefficients(self):
        # With the least sizes of the discriminant for their first coefficients, with the greatest second coefficients,
        # and with the greatest first coefficients of the Hessian.
        for row in ((1, 1, 2, 1), (2, 2, 3, 1), (3, 3, 4, 1), (4, 4, 5, 1), (5, 5, 6, 1), (6, 7, 8, 2), (7, 8, 9, 2),
                    (8, 10, 11, 3), (9, 11, 12, 3), (10, 13, 14, 4), (11, 15, 16, 5), (12, 16, 17, 5), (13, 18, 19, 6),
                    (14, 19, 20, 6), (1, 14, 14, 14), (2, 16, 16, 15), (3, 17, 17, 15), (4, 18, 18, 16), (5, 19, 19, 15),
                    (6, 20, 20, 15), (7, 21, 21, 15), (8, 22, 22, 15), (9, 23, 23, 15), (10, 23, 23, 14), (11, 24, 24, 14),
                    (12, 24, 24, 13), (13, 25, 26, 13), (14, 23, 24, 10), (1, 5, -4, 6), (2, 6, -5, 8), (3, 6, -5, 9),
                    (4, 7, -6, 11), (5, 5, -4, 10), (6, 3, -2, 9), (7, 14, 14, 8), (8, 16, 16, 9), (9, 18, 18, 10),
                    (10, 20, 20, 11), (11, 22, 22, 12), (13, 13, 14, 1), (14, 15, 16, 2), (1, 2, -1, -1), (2, 3, -3, -2),
                    (3, 5, -4, -3), (4, 6, -6, -4), (5, 8, -7, -5), (6, 9, -9, -6)):
            form = Form(row)
            self.assertEqual((is_least(form), abs(form.discriminant) <= MOST), (True, True))
            self.assertIn(form, rings_of(form.discriminant))

    def test_how_many_rings(self):
        # Counted once by another search, by all first three coefficients, and by all reduced Hessians.
        self.assertEqual(sum(len(rings_of(number)) for number in range(-3000, 0)), 2659)
        self.assertEqual(sum(len(rings_of(number)) for number in range(1, 3001)), 2145)
        self.assertEqual(sum(len(rings_of(number)) for number in range(-60300, -60000)), 306)
        self.assertEqual(sum(len(rings_of(number)) for number in range(60000, 60300)), 246)

    def test_classes_of_forms_with_great_discriminants(self):
        for row in itertools.product((1, 2, 3), range(0, 14, 4), range(-9, 22, 5), range(-20, 21, 7)):
            form = Form(row)
            if 0 < abs(form.discriminant) <= MOST:
                self.assertIn(least_form(form), rings_of(form.discriminant))

    def test_forms_with_roots_by_the_words(self):
        for number in list(range(-300, 0)) + [-2012, -MOST, -99999, -65536]:
            rows = [(0, b, c, (c * c - number // (b * b)) // (4 * b))
                    for b in range(1, 320) if number % (b * b) == 0
                    for c in range(b + 1) if (c * c - number // (b * b)) % (4 * b) == 0]
            self.assertEqual(with_roots(number), tuple(Form(row) for row in rows))


class Roots(unittest.TestCase):
    """[6.2]"""

    def test_products_that_are_0(self):
        for number in (1, 4, 49, -23, -27, 148, 81, -108, 16, 5, -4, 729):
            for form in rings_of(number):
                ring = Ring(form)
                a, b, _, _ = form.coefficients
                for x, y in form.roots():
                    # The root tells a map to the integers, for which this element goes to 0.
                    z = ring.w() + ring.one().scaled(-b if y == 0 else a * x // y)
                    self.assertEqual((bool(z), z.norm), (True, (0, 1)))
                    r, s, _ = z.polynomial
                    rest = z * z + z.scaled(r[0]) + ring.one().scaled(s[0])
                    self.assertFalse(bool(z * rest))
                if not form.roots():
                    for entries in itertools.product(range(-2, 3), repeat=3):
                        self.assertEqual(ring.element(entries).norm[0] == 0, entries == (0, 0, 0))


class Fundamental(unittest.TestCase):
    """[6.4]"""

    def test_numbers(self):
        many = {}
        numbers = list(range(-700, 701)) + [-3299, -3896, 32009, 62501, -27355, -99995, 99989, 99993]
        for number in numbers:
            if is_fundamental(number):
                forms = rings_of(number)
                self.assertEqual(len(with_roots(number)), 1)
                self.assertEqual(len(fields_of(number)), len(forms) - 1)
                self.assertTrue(all(is_greatest(form) for form in forms))
                self.assertIn(len(forms) - 1, (0, 1, 4, 13))
                many[len(forms) - 1] = many.get(len(forms) - 1, 0) + 1
        self.assertEqual(sorted(many), [0, 1, 4])

    def test_some_by_name(self):
        self.assertEqual(len(fields_of(-3299)), 4)
        self.assertEqual(len(fields_of(32009)), 4)
        self.assertEqual([len(fields_of(number)) for number in (-23, -31, -3, 1, 5, 229, 257)], [1, 1, 0, 0, 0, 1, 1])

    def test_how_many_greatest_rings_without_roots(self):
        # As the tables of cubic fields tell it.
        for most, under, over in ((100, 7, 2), (1000, 127, 27), (10000, 1520, 382)):
            numbers = range(1, most + 1)
            self.assertEqual(sum(len(fields_of(number)) for number in numbers if number % 4 < 2), over)
            self.assertEqual(sum(len(fields_of(-number)) for number in numbers if -number % 4 < 2), under)

    def test_all_greatest_rings_with_small_discriminants(self):
        found = [number for number in range(-200, 400) if number != 0 and fields_of(number)]
        self.assertEqual(found, [-200, -199, -175, -172, -152, -140, -139, -135, -116, -108, -107, -104, -87, -83,
                                 -76, -59, -44, -31, -23, 49, 81, 148, 169, 229, 257, 316, 321, 361])


class RingsTo(Refusals, unittest.TestCase):
    """[6.1]"""

    def test_both_sides(self):
        for most in (1, 2, 3, 4, 5, 24, 99, 300):
            over = rings_to(most)
            self.assertEqual(over, rings_to(most, below=False))
            self.assertIs(type(over), dict)
            self.assertEqual(list(over), [number for number in range(1, most + 1) if rings_of(number)])
            self.assertEqual(list(over), [number for number in range(1, most + 1) if number % 4 < 2])
            under = rings_to(most, below=True)
            self.assertEqual(list(under), [number for number in range(-most, 0) if number % 4 < 2])
            for number, forms in list(over.items()) + list(under.items()):
                self.assertEqual(forms, rings_of(number))
        self.assertEqual(rings_to(2, below=True), {})

    def test_the_keyword(self):
        parameters = inspect.signature(rings_to).parameters
        self.assertIs(parameters["below"].kind, inspect.Parameter.KEYWORD_ONLY)
        self.assertIs(parameters["below"].default, False)
        with self.assertRaises(TypeError):
            rings_to(5, True)

    def test_the_bounds(self):
        for value in (0, -1, 301, LONGEST) + NO_INTEGERS:
            self.refuses_number(InvalidNumber, value, rings_to, value)
            with self.assertRaises(InvalidNumber):
                rings_to(value, below=None)

    def test_wrong_keywords(self):
        for value in (0, 1, None, "True", (), (True,), [True], {}, {True: True}, LONG, nested(8)) + NO_TUPLES:
            if not isinstance(value, bool):
                with self.assertRaises(InvalidOperation) as caught:
                    rings_to(5, below=value)
                self.assertIs(type(caught.exception), InvalidOperation)


class Numbers(Refusals, unittest.TestCase):
    """[0.7], and the errors of the stage"""

    def test_numbers_that_are_refused(self):
        for value in (0, MOST + 1, -MOST - 1, 10 ** 6, LONGEST) + NO_INTEGERS:
            for call in FUNCTIONS:
                self.refuses_number(InvalidNumber, value, call, value)

    def test_the_bounds_are_let(self):
        for value in (1, -1, 2, -2, MOST, -MOST):
            for call in FUNCTIONS:
                self.assertIs(type(call(value)), tuple)


class NotTrue(unittest.TestCase):
    """[6.5], [0.20]"""

    def test_all_have_a_root(self):
        self.assertEqual(rings_of(-27), with_roots(-27))
        self.assertEqual(len(rings_of(-27)), 2)

    def test_no_greatest_one(self):
        self.assertEqual(len(rings_of(-2012)) - len(with_roots(-2012)), 3)
        self.assertEqual(fields_of(-2012), ())

    def test_several_with_a_root(self):
        self.assertEqual(len(with_roots(16)), 2)

    def test_a_greatest_ring_without_a_fundamental_discriminant(self):
        self.assertIs(is_fundamental(49), False)
        self.assertEqual(told(fields_of(49)), ["(1, 2, -1, -1)"])
        self.assertIs(is_fundamental(-108), False)

    def test_a_greatest_ring_whose_indices_are_all_even(self):
        form = fields_of(-503)[0]
        self.assertTrue(all(form(x, y) % 2 == 0 for x in range(-5, 6) for y in range(-5, 6)))
        self.assertEqual((form.content, is_greatest(form)), (1, True))

    def test_unlike_ones_with_one_discriminant(self):
        self.assertEqual(len(fields_of(-3299)), 4)


if __name__ == "__main__":
    unittest.main()
