import itertools
import math
import unittest

from formrings.base.changes import determinant_of
from formrings.base.integers import factored, is_fundamental
from formrings.double import classes
from formrings.double.classes import (
    are_in_one_class, classes_of, first_class, least_double, order_of, power_of, ring_count, thirds, together)
from formrings.errors import InvalidDouble, InvalidNumber
from formrings.form.doubles import Double
from formrings.form.forms import Form
from formrings.listing.lists import fields_of, rings_of, with_roots
from tests.helper import LONG, LONGEST, NO_INTEGERS, Refusals, no_objects, numbers, some_changes


def is_of_classes(number):
    return number % 4 < 2 and (number < 0 or math.isqrt(number) ** 2 != number)


SMALL = [number for number in range(-250, 260) if is_of_classes(number)]
SEVERAL = SMALL[::5] + [-3299, -3896, -2004, -4027, 1129, 1297, 229, 257, 316, 4 * 229, 9 * 229]
GREAT = [-100000, -99999, -99996, -95471, -99960, 9997, 9996, 9961, 9905]
CALLS = (least_double, order_of, lambda double: power_of(double, 2))


def is_reduced_by_words(double):
    a, b, c = double.coefficients
    number = double.discriminant
    if number < 0:
        return -a < b <= a <= c and (a != c or b >= 0)
    # s - b < 2 |a| < s + b for the root s of the discriminant.
    if not (0 < b and b * b < number):
        return False
    low = 2 * abs(a) + b
    high = 2 * abs(a) - b
    return low * low > number and (high < 0 or high * high < number)


def reduced_by_words(number):
    found = []
    most = 2 + math.isqrt(abs(number))
    for b in range(-most, most + 1):
        for a in range(-most, most + 1):
            if a != 0 and (b * b - number) % (4 * a) == 0:
                double = Double((a, b, (b * b - number) // (4 * a)))
                if double.content == 1 and (number > 0 or a > 0) and is_reduced_by_words(double):
                    found.append(double.coefficients)
    return found


def even_changes(seed, many):
    return [change for change in some_changes(seed, many) if determinant_of(change) == 1]


def product_by_words(one, other):
    """Some double of the product, by doubles with one middle coefficient, and first ones without a common divisor."""
    number = one.discriminant
    a, b, _ = one.coefficients
    for x, y in itertools.product(range(-7, 8), range(8)):
        worth = other(x, y)
        if math.gcd(x, y) != 1 or worth == 0 or math.gcd(worth, a) != 1:
            continue
        r, s = next((r, s) for r in range(-9, 10) for s in range(-9, 10) if x * s - y * r == 1)
        led = other.led(((x, y), (r, s)))
        assert led.coefficients[0] == worth
        for times in range(abs(worth)):
            middle = b + 2 * a * times
            if (middle - led.coefficients[1]) % (2 * worth) == 0:
                assert (middle * middle - number) % (4 * a * worth) == 0
                return Double((a * worth, middle, (middle * middle - number) // (4 * a * worth)))
    return None


class Examples(unittest.TestCase):
    def test_constants(self):
        self.assertEqual((classes.MOST_BELOW, classes.MOST_ABOVE), (100000, 10000))

    def test_lines(self):
        self.assertEqual(
            [[str(one) for one in classes_of(-23)], [str(one) for one in classes_of(229)], len(classes_of(-3299)),
             classes_of(-4) == (Double((1, 0, 1)),)],
            [['(1, 1, 6)', '(2, -1, 3)', '(2, 1, 3)'], ['(-9, 7, 5)', '(-9, 11, 3)', '(-1, 15, 1)'], 27, True])
        two = Double((2, 1, 3))
        self.assertEqual(
            [str(together(two, two)), str(together(two, Double((2, -1, 3)))), order_of(two), str(power_of(two, -1)),
             str(least_double(Double((3, 1, 2))))], ['(2, -1, 3)', '(1, 1, 6)', 3, '(2, -1, 3)', '(2, -1, 3)'])
        self.assertEqual(
            [thirds(-23), ring_count(-23), thirds(-3299), ring_count(-3299), thirds(229), ring_count(229), thirds(-92),
             str(first_class(12))], [3, 2, 9, 5, 3, 2, 3, '(-2, 2, 1)'])
        with self.assertRaises(InvalidDouble):
            together(two, Double((1, 0, 1)))
        with self.assertRaises(InvalidNumber) as caught:
            ring_count(-92)
        self.assertEqual(caught.exception.given, -92)


class Least(unittest.TestCase):
    """[14.2], [14.3]"""

    def test_led_by_changes(self):
        changes = even_changes(141, 60) + [((1, 0), (10 ** 59, 1)), ((1, 10 ** 40), (10 ** 19, 10 ** 59 + 1))]
        for number in SEVERAL + GREAT:
            for least in classes_of(number)[:4]:
                for change in changes[:8] if number in GREAT else changes:
                    led = least.led(change)
                    self.assertEqual(least_double(led), least)
                    self.assertIs(are_in_one_class(led, least), True)

    def test_least_of_the_reduced_ones(self):
        for number in SEVERAL:
            rows = reduced_by_words(number)
            for row in rows:
                least = least_double(Double(row))
                self.assertIn(least.coefficients, rows)
                self.assertLessEqual(least.coefficients, row)
                self.assertEqual(least_double(least), least)
                if number < 0:
                    self.assertEqual(least, Double(row))

    def test_in_one_class(self):
        for number in SEVERAL:
            found = classes_of(number)[:8]
            for one, other in itertools.product(found, repeat=2):
                self.assertIs(are_in_one_class(one, other), one == other)

    def test_a_change_with_the_determinant_below_0(self):
        # It leads (A, B, C) to the class of (A, -B, C).
        for number in SEVERAL:
            for least in classes_of(number)[:6]:
                a, b, c = least.coefficients
                for change in (((1, 0), (0, -1)), ((0, 1), (1, 0)), ((2, 1), (3, 1))):
                    led = least.led(change)
                    self.assertIs(are_in_one_class(led, Double((a, -b, c))), True)
                    self.assertEqual(are_in_one_class(led, least), power_of(least, 2) == first_class(number))

    def test_all_small_doubles(self):
        for row in itertools.product(range(1, 4), range(-4, 5), range(1, 6)):
            double = Double(row)
            if double.discriminant in SMALL and double.content == 1:
                self.assertIn(least_double(double), classes_of(double.discriminant))


class Classes(unittest.TestCase):
    """[14.2], [14.3]"""

    def test_against_reduced_doubles(self):
        for number in SEVERAL:
            rows = reduced_by_words(number)
            found = classes_of(number)
            self.assertIs(type(found), tuple)
            told = [double.coefficients for double in found]
            self.assertEqual(told, sorted(set(least_double(Double(row)).coefficients for row in rows)))
            if number < 0:
                self.assertEqual(told, sorted(rows))

    def test_cycles_by_neighbours(self):
        # Two reduced doubles side by side: (A, B, C) and (C, B', C') with B + B' divided by 2 C.
        for number in [number for number in SEVERAL if number > 0]:
            rows = reduced_by_words(number)
            left = dict.fromkeys(rows, True)
            many = 0
            while left:
                many += 1
                start = row = min(left)
                self.assertIn(Double(start), classes_of(number))
                while True:
                    del left[row]
                    row, = [other for other in rows if other[0] == row[2] and (other[1] + row[1]) % (2 * row[2]) == 0]
                    if row == start:
                        break
            self.assertEqual(many, len(classes_of(number)))

    def test_known_numbers(self):
        known = {-3: 1, -4: 1, -7: 1, -15: 2, -20: 2, -23: 3, -47: 5, -71: 7, -163: 1, -84: 4, -420: 8, -11: 1, -44: 3,
                 5: 1, 8: 1, 12: 2, 229: 3, 257: 3, 40: 2, 60: 4, 401: 5, 577: 7, 1129: 9, -3299: 27, -95471: 533,
                 -99999: 224}
        for number, many in known.items():
            self.assertEqual(len(classes_of(number)), many, number)

    def test_first_ones(self):
        for number in SMALL + GREAT:
            start = Double((1, number % 2, (number % 2 - number) // 4))
            self.assertEqual(start.discriminant, number)
            self.assertEqual(first_class(number), least_double(start))
            self.assertIn(first_class(number), classes_of(number))


class Products(unittest.TestCase):
    """[14.4]"""

    def test_against_the_words(self):
        many = 0
        for number in SEVERAL:
            found = classes_of(number)
            for one, other in list(itertools.product(found, repeat=2))[:25]:
                double = product_by_words(one, other)
                if double is not None:
                    many += 1
                    self.assertEqual(double.discriminant, number)
                    self.assertEqual(together(one, other), least_double(double))
        self.assertGreater(many, 500)

    def test_rules(self):
        source = numbers(142)
        changes = even_changes(143, 30)
        for number in SEVERAL + GREAT:
            found = classes_of(number)
            first = first_class(number)
            for _ in range(4):
                one, two, three = [source.choice(found) for _ in range(3)]
                led = one.led(source.choice(changes))
                self.assertEqual(together(one, two), together(two, led))
                self.assertEqual(together(together(one, two), three), together(one, together(two, three)))
                self.assertEqual((together(led, first), together(first, two)), (one, two))
                a, b, c = led.coefficients
                self.assertEqual(together(one, Double((a, -b, c))), first)
                self.assertIn(together(one, two), found)

    def test_first_coefficients_with_common_divisors(self):
        for row in ((4, 2, 5), (6, 2, 7), (9, 3, 5), (6, 5, 6), (-6, 4, 7), (10, 10, 13)):
            double = Double(row)
            number = double.discriminant
            self.assertEqual(double.content, 1)
            other = product_by_words(double, double)
            self.assertEqual(together(double, double), least_double(other))
            self.assertEqual(power_of(double, 2), together(double, double))
            self.assertEqual(together(double, Double((row[0], -row[1], row[2]))), first_class(number))


class Powers(unittest.TestCase):
    """[14.4]"""

    def test_orders(self):
        for number in SEVERAL + GREAT[:6]:
            found = classes_of(number)
            first = first_class(number)
            for one in found[:12]:
                order = order_of(one)
                self.assertEqual(len(found) % order, 0)
                left = one
                for times in range(1, order):
                    self.assertNotEqual(left, first)
                    left = together(left, one)
                self.assertEqual(left, first)
            self.assertEqual(order_of(first), 1)

    def test_powers(self):
        for number in SEVERAL:
            for one in classes_of(number)[:5]:
                a, b, c = one.coefficients
                back = least_double(Double((a, -b, c)))
                over = under = first_class(number)
                self.assertEqual(power_of(one, 0), over)
                for many in range(1, 12):
                    over, under = together(over, one), together(under, back)
                    self.assertEqual((power_of(one, many), power_of(one, -many)), (over, under))
                order = order_of(one)
                for many in (1000, -1000, 999, -513):
                    self.assertEqual(power_of(one, many), power_of(one, many % order))

    def test_powers_of_doubles_that_are_not_least(self):
        for change in even_changes(144, 20):
            for row in ((2, 1, 3), (3, 1, 275), (3, 13, -5), (-9, 7, 5)):
                double = Double(row)
                led = double.led(change)
                self.assertEqual(power_of(led, -7), power_of(double, -7))
                self.assertEqual(order_of(led), order_of(double))


class Thirds(unittest.TestCase):
    """[14.5], [6.4], [0.16]"""

    def test_against_powers(self):
        for number in SEVERAL + [-4027 * 4, -972, -108, -81 * 23, 36 * 229]:
            if -100000 <= number <= 10000:
                found = classes_of(number)
                many = len([one for one in found if power_of(one, 3) == first_class(number)])
                self.assertEqual(thirds(number), many)
                while many % 3 == 0:
                    many //= 3
                self.assertEqual(many, 1)

    def test_numbers_of_rings(self):
        found = set()
        for number in SMALL + list(range(-3400, -3200)) + [-99995, -50783, 9997, 7057, 8069, 7753, -3896, -27355]:
            if is_of_classes(number) and is_fundamental(number):
                many = ring_count(number)
                found.add(many)
                self.assertEqual(many, (thirds(number) + 1) // 2)
                self.assertEqual(many, len(rings_of(number)))
                self.assertEqual(len(with_roots(number)), 1)
                self.assertEqual(many, 1 + len(fields_of(number)))
        self.assertEqual(found, {1, 2, 5})

    def test_fundamental_by_the_words(self):
        for number in SMALL:
            others = [side for side in range(2, 20) if number % (side * side) == 0 and number // side ** 2 % 4 < 2]
            if others:
                with self.assertRaises(InvalidNumber):
                    ring_count(number)
            else:
                self.assertEqual(ring_count(number) > 0, True)


class Wrong(Refusals, unittest.TestCase):
    """[0.4], [0.7], and the errors of the stage"""

    def numbers(self):
        return (0, 1, 4, 9, 9801, 10000, 2, 3, -1, -2, 7, 10001, 10004, 10005, -100003, -100004, -100001, LONGEST,
                -LONGEST) + NO_INTEGERS

    def wrong_doubles(self):
        rows = ((0, 0, 0), (2, 2, 2), (2, 0, 6), (-1, 0, -1), (-2, 1, -3), (1, 0, -1), (0, 1, 0), (1, 2, 1), (1, 3, 2),
                (0, 0, 1), (1, 0, 25001), (1, 1, 25001), (1, 1, -2501), (1, 0, -2501), (1, 0, -2500), (3, 3, -3),
                (1, 0, LONGEST), (LONGEST, 0, LONGEST), (2, 4, 8))
        return [Double(row) for row in rows] + no_objects(Double)

    def test_wrong_numbers(self):
        for value in self.numbers():
            for call in (first_class, classes_of, thirds, ring_count):
                self.refuses_number(InvalidNumber, value, call, value)
        for value in (-100000, -99999, 9997, 9996):
            for call in (first_class, classes_of, thirds):
                self.assertIsNotNone(call(value))
        for value in (-92, -12, 20, 45, -27, -100000, 32):
            self.refuses_number(InvalidNumber, value, ring_count, value)

    def test_wrong_doubles(self):
        right = Double((2, 1, 3))
        for value in self.wrong_doubles():
            for call in CALLS:
                self.refuses(InvalidDouble, {}, call, value)
            self.refuses(InvalidDouble, {}, power_of, value, None)
            for call in (are_in_one_class, together):
                self.refuses(InvalidDouble, {}, call, value, right)
                self.refuses(InvalidDouble, {}, call, right, value)
                self.refuses(InvalidDouble, {}, call, value, value)

    def test_two_discriminants(self):
        for one, other in itertools.permutations((Double((2, 1, 3)), Double((1, 0, 1)), Double((1, 1, -1))), 2):
            for call in (are_in_one_class, together):
                self.refuses(InvalidDouble, {}, call, one, other)

    def test_wrong_exponents(self):
        for value in (1001, -1001, LONGEST) + NO_INTEGERS:
            for double in (Double((2, 1, 3)), Double((1, 1, -1))):
                self.refuses_number(InvalidNumber, value, power_of, double, value)

    def test_the_bounds_are_let(self):
        for row in ((1, 0, 25000), (1, 1, 25000), (1, 1, -2499), (1, 0, -2499)):
            self.assertEqual(order_of(Double(row)), 1)
        self.assertIs(are_in_one_class(Double((25000, 0, 1)), Double((1, 0, 25000))), True)


class NotTrue(unittest.TestCase):
    """[14.6]"""

    def test_equal_values_in_two_classes(self):
        one, other = Double((2, 1, 3)), Double((2, -1, 3))
        values = [sorted(double(x, y) for x in range(-9, 10) for y in range(-9, 10)) for double in (one, other)]
        self.assertEqual(values[0], values[1])
        self.assertIs(are_in_one_class(one, other), False)

    def test_four_times_a_discriminant(self):
        self.assertEqual((len(classes_of(-11)), len(classes_of(-44))), (1, 3))

    def test_classes_that_are_no_powers(self):
        self.assertLess(max(order_of(one) for one in classes_of(-3299)), 27)
        self.assertEqual(thirds(-3299), 9)

    def test_several_reduced_ones(self):
        rows = [row for row in reduced_by_words(229) if least_double(Double(row)) == Double((-1, 15, 1))]
        self.assertGreater(len(rows), 1)
        self.assertEqual(sum(times for _, times in factored(229)), 1)

    def test_the_ring_with_divisors_of_0(self):
        for number in (-23, 229, -3299):
            form, = with_roots(number)
            self.assertEqual(form, Form((0, 1, 1, (1 - number) // 4)))


if __name__ == "__main__":
    unittest.main()
