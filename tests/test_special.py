import math
import unittest

from formrings.above.steps import above, below, greatest, heavy_places, is_greatest, roots_at
from formrings.base.changes import IDLE, changes_to, determinant_of, joined
from formrings.base.integers import factored, is_prime
from formrings.errors import InvalidForm, InvalidNumber, InvalidOperation
from formrings.form.forms import Form
from formrings.led.least import is_least, least_form
from formrings.led.ways import are_led, turns
from formrings.listing.lists import fields_of, rings_of
from formrings.ring.rings import Ring
from formrings.special import roots, squares
from formrings.special.roots import third_form, third_greatest, third_root
from formrings.special.squares import (
    is_turning, period_form, prime_form, prime_parts, square_fields, turning_form)
from tests.helper import (
    CUBIC, LONG, LONGEST, NO_INTEGERS, NO_PRIMES, NOTHING, PLAIN, ROOT, ROUND, Refusals, no_objects, numbers, rows_of,
    some_changes)

TURN = ((0, -1), (1, -1))
PARTED = [prime for prime in range(7, 10001) if prime % 3 == 1 and is_prime(prime)]
# The last ones are a product of two great primes, the square of one, and a great prime times a third power.
GREAT = (10 ** 12, 10 ** 12 - 1, 999999999989, 10 ** 12 - 11, 9973 ** 3, 9973 ** 3 + 1, 2 ** 39, 3 ** 25, 999983 ** 2,
         10007 * 10009, 10007 ** 2, 10007 * 10009 * 9967, 10007 ** 2 * 8 * 9, 99991 * 9261, 7 ** 2 * 999983 * 19)


def pair_by_words(number):
    """The only pair (a, b) of which a b b divides the number with a third power as the rest."""
    a, b = 1, 1
    for prime, times in factored(number):
        a *= prime if times % 3 == 1 else 1
        b *= prime if times % 3 == 2 else 1
    return (a, b)


def has_turn(form):
    """Whether a change other than the idle one that becomes idle when it is done three times keeps the form."""
    return any(change != IDLE and joined(joined(change, change), change) == IDLE for change in turns(form))


class Examples(unittest.TestCase):
    def test_constants(self):
        self.assertEqual((roots.MAX_THIRD, squares.MAX_CONDUCTOR, squares.MAX_PARTED), (10 ** 12, 300, 10 ** 4))

    def test_lines(self):
        self.assertEqual(
            ([third_root(number) for number in (2, 4, 12, 54, 360, 1000)], str(third_form(12)),
             third_form(12).discriminant),
            ([(2, 1), (1, 2), (3, 2), (2, 1), (5, 3), (1, 1)], '(3, 0, 0, 2)', -972))
        self.assertEqual(
            [(str(form), index) for form, index in (third_greatest(2), third_greatest(10), third_greatest(12))],
            [('(1, 3, 3, 3)', 1), ('(2, 2, 4, 1)', 3), ('(2, 6, 6, 5)', 1)])
        self.assertEqual(
            ([prime_parts(prime) for prime in (7, 13, 31)], [str(prime_form(prime)) for prime in (7, 13, 31)],
             [str(period_form(prime)) for prime in (7, 31)]),
            ([(1, 1), (-5, 1), (4, 2)], ['(1, 2, -1, -1)', '(1, -1, -4, -1)', '(2, 5, -1, -2)'],
             ['(1, 1, -2, -1)', '(1, 1, -10, -8)']))
        self.assertEqual(
            [turning_form(1, 0).discriminant, is_turning(PLAIN), is_turning(CUBIC), is_turning(Form((0, 1, 2, 0))),
             prime_form(31).discriminant == 31 * 31, period_form(31).discriminant == 62 * 62],
            [81, True, False, False, True, True])
        self.assertEqual(
            ([str(form) for form in square_fields(7)],
             [len(square_fields(conductor)) for conductor in (1, 9, 63, 49, 91, 3)]),
            (['(1, 2, -1, -1)'], [0, 1, 2, 0, 2, 0]))
        with self.assertRaises(InvalidNumber) as caught:
            prime_parts(11)
        self.assertEqual(caught.exception.given, 11)


class ThirdRoots(unittest.TestCase):
    """[13.1], [13.2]"""

    def check(self, number):
        a, b = third_root(number)
        self.assertEqual((a, b), pair_by_words(number))
        self.assertEqual(math.gcd(a, b), 1)
        form = third_form(number)
        self.assertEqual(form, Form((a, 0, 0, b)))
        self.assertEqual(form.discriminant, -27 * a * a * b * b)
        return a, b

    def test_small_and_great_numbers(self):
        for number in list(range(2, 2000)) + list(GREAT):
            a, b = self.check(number)
            rest = round((number // (a * b * b)) ** (1 / 3))
            self.assertEqual(a * b * b * rest ** 3, number)
            self.assertTrue(all(times == 1 for _, times in factored(a * b)))

    def test_third_powers_and_roots(self):
        for number in list(range(2, 400)) + [9973 ** 3, 10 ** 12]:
            whole = round(number ** (1 / 3)) ** 3 == number
            self.assertEqual(third_root(number) == (1, 1), whole)
            self.assertEqual(len(third_form(number).roots()) > 0, whole)

    def test_primes_and_squares(self):
        for prime in (2, 3, 5, 7, 101, 9973, 999983):
            for other in (2, 3, 7, 11, 10 ** 3 + 9):
                if prime != other and prime * other ** 2 <= 10 ** 12:
                    self.assertEqual(self.check(prime * other ** 2), (prime, other))

    def test_third_powers_in_the_ring(self):
        for number in (2, 4, 12, 45, 360, 9973 * 4, 10 ** 12 - 1):
            a, b = third_root(number)
            ring = Ring(third_form(number))
            self.assertEqual(ring.w().power(3), ring.one().scaled(a * a * b))
            self.assertEqual(ring.t().power(3), ring.one().scaled(-a * b * b))

    def test_greatest_rings_by_steps(self):
        for number in range(2, 400):
            form = third_form(number)
            if abs(form.discriminant) <= 10 ** 8:
                top, index = third_greatest(number)
                self.assertEqual((top, index), greatest(form))
                a, b = third_root(number)
                self.assertEqual(index, 3 if (a * a - b * b) % 9 == 0 else 1)
                self.assertIs(is_greatest(form), index == 1)
                self.assertEqual(top.discriminant, -27 * a * a * b * b // index ** 2)

    def test_the_only_heavy_place(self):
        for number in range(2, 200):
            a, b = third_root(number)
            form = third_form(number)
            for prime in (2, 3, 5, 7, 11, 13):
                places = ()
                if prime == 3 and (a - b) % 9 == 0:
                    places = ((2, 1),)
                elif prime == 3 and (a + b) % 9 == 0:
                    places = ((1, 1),)
                self.assertEqual(heavy_places(form, prime), places)
            if heavy_places(form, 3):
                top = above(form, 3, heavy_places(form, 3)[0])
                self.assertEqual(third_greatest(number), (least_form(top), 3))

    def test_great_greatest_rings(self):
        for number in GREAT:
            a, b = third_root(number)
            top, index = third_greatest(number)
            self.assertEqual(top.discriminant * index * index, -27 * a * a * b * b)
            self.assertIs(is_least(top), True)
            self.assertEqual(index, 3 if (a * a - b * b) % 9 == 0 else 1)
            if index == 1:
                self.assertEqual(top, least_form(third_form(number)))


class Turning(unittest.TestCase):
    """[13.3], [0.18]"""

    def test_turning_forms(self):
        for a, b in rows_of(131, 60, 2, 20) + [(LONGEST, -LONGEST), (0, 0), (1, 3)]:
            form = turning_form(a, b)
            self.assertEqual(form.coefficients, (a, b, b - 3 * a, -a))
            self.assertEqual(form.led(TURN), form)
            self.assertEqual(form.discriminant, (b * b - 3 * a * b + 9 * a * a) ** 2)
            if form:
                self.assertIs(is_turning(form), True)
        self.assertNotEqual(TURN, IDLE)
        self.assertEqual(joined(joined(TURN, TURN), TURN), IDLE)

    def test_led_ones(self):
        for change in some_changes(132, 40) + [((1, 0), (10 ** 50, 1))]:
            for a, b in ((1, 2), (0, 1), (3, -5), (7, 7), (2, 0)):
                self.assertIs(is_turning(turning_form(a, b).led(change)), True)
            for row in ((0, 1, 2, 0), (1, 0, -7, -6), (0, 2, 1, 0)):
                self.assertIs(is_turning(Form(row).led(change)), False)

    def test_against_turns(self):
        found = {True: 0, False: 0}
        for row in rows_of(133, 300, 4, 3) + [(0, 1, k, 0) for k in range(1, 12)]:
            form = Form(row)
            if form.discriminant != 0:
                self.assertIs(is_turning(form), has_turn(form))
                if math.isqrt(abs(form.discriminant)) ** 2 == form.discriminant:
                    found[is_turning(form)] += 1
        self.assertGreater(min(found.values()), 3)

    def test_against_all_turning_forms(self):
        alike = {least_form(turning_form(a, b)).coefficients
                 for a in range(-4, 5) for b in range(-12, 13) if a != 0 or b != 0}
        for side in range(1, 25):
            for form in rings_of(side * side):
                self.assertIs(is_turning(form), form.coefficients in alike, form)

    def test_greatest_rings_with_squares(self):
        # Without divisors of 0: those with a turn of order three are just those whose discriminant is a square.
        for number in range(1, 400):
            for form in fields_of(number):
                self.assertIs(has_turn(form), math.isqrt(number) ** 2 == number)


class Primes(unittest.TestCase):
    """[13.4]"""

    def test_parts(self):
        for prime in PARTED:
            first, last = prime_parts(prime)
            self.assertEqual(4 * prime, first * first + 27 * last * last)
            self.assertEqual((first % 3, first % 2 == last % 2, last > 0), (1, True, True))

    def test_just_one_pair(self):
        for prime in PARTED[:60]:
            pairs = [(x, y) for y in range(1, 60) for x in range(-150, 150)
                     if x * x + 27 * y * y == 4 * prime and (x - 1) % 3 == 0]
            self.assertEqual(pairs, [prime_parts(prime)])

    def test_forms(self):
        for prime in PARTED[:70] + PARTED[-10:]:
            first, last = prime_parts(prime)
            form = prime_form(prime)
            self.assertEqual(form, turning_form(last, (first + 3 * last) // 2))
            self.assertEqual((form.discriminant, form.roots(), is_greatest(form)), (prime * prime, (), True))
            periods = period_form(prime)
            self.assertEqual(27 * periods[3] + prime * (first + 3) - 1, 0)
            self.assertEqual((periods[0], periods[1], 3 * periods[2]), (1, 1, 1 - prime))
            self.assertEqual(periods.discriminant, prime * prime * last * last)

    def test_periods_lie_below(self):
        for prime in PARTED[:60]:
            _, last = prime_parts(prime)
            self.assertEqual(greatest(period_form(prime)), (least_form(prime_form(prime)), last))

    def test_the_periods_are_roots(self):
        # Modulo another prime the sums of the powers of a root of one are roots of the form.
        for prime, other in ((7, 29), (7, 43), (13, 53), (19, 191), (31, 311), (37, 149)):
            unit = next(pow(x, (other - 1) // prime, other) for x in range(2, other)
                        if pow(x, (other - 1) // prime, other) != 1)
            thirds = sorted({pow(x, 3, prime) for x in range(1, prime)})
            worth = sum(pow(unit, x, other) for x in thirds) % other
            self.assertEqual(period_form(prime)(worth, 1) % other, 0)


class Fields(unittest.TestCase):
    """[13.5]"""

    def members(self, conductor):
        found = [prime ** times for prime, times in factored(conductor)]
        return len(found) if all(member == 9 or member in PARTED for member in found) else 0

    def test_numbers(self):
        for conductor in range(1, 301):
            many = self.members(conductor)
            forms = square_fields(conductor)
            self.assertIs(type(forms), tuple)
            self.assertEqual(len(forms), 2 ** (many - 1) if many > 0 else 0)
            rows = [form.coefficients for form in forms]
            self.assertEqual(rows, sorted(set(rows)))
            for form in forms:
                self.assertEqual((form.discriminant, form.roots()), (conductor ** 2, ()))
                self.assertTrue(is_least(form) and is_greatest(form) and is_turning(form))

    def test_against_the_lists_by_discriminants(self):
        for conductor in list(range(1, 101)) + [117, 133, 171, 217, 247, 252, 259, 273, 279, 297, 300]:
            self.assertEqual(square_fields(conductor), fields_of(conductor ** 2))

    def test_by_turning_forms(self):
        for conductor in (7, 9, 63, 91, 117, 133, 247, 279):
            pairs = [(a, b) for a in range(-20, 21) for b in range(-60, 61)
                     if b * b - 3 * a * b + 9 * a * a == conductor]
            for form in square_fields(conductor):
                self.assertTrue(any(are_led(form, turning_form(a, b)) for a, b in pairs))


class Wrong(Refusals, unittest.TestCase):
    """[0.4], [0.7], and the errors of the stage"""

    def test_wrong_numbers(self):
        for value in (0, 1, -1, -8, 10 ** 12 + 1, LONGEST) + NO_INTEGERS:
            for call in (third_root, third_form, third_greatest):
                self.refuses_number(InvalidNumber, value, call, value)
        self.assertEqual((third_root(2), third_root(10 ** 12)), ((2, 1), (1, 1)))

    def test_wrong_primes(self):
        for value in (2, 3, 5, 11, 17, 9941, 10003, 10009, 49, 91, 9997, 25, 1, 4) + NO_PRIMES:
            for call in (prime_parts, prime_form, period_form):
                self.refuses_number(InvalidNumber, value, call, value)
        self.assertEqual((PARTED[0], PARTED[-1]), (7, 9973 if 9973 % 3 == 1 else 9967))

    def test_wrong_conductors(self):
        for value in (0, -7, 301, 307, LONGEST) + NO_INTEGERS:
            self.refuses_number(InvalidNumber, value, square_fields, value)
        self.assertEqual((square_fields(1), square_fields(300)), ((), ()))

    def test_wrong_coefficients(self):
        for value in NO_INTEGERS:
            self.refuses_number(InvalidNumber, value, turning_form, value, 1)
            self.refuses_number(InvalidNumber, value, turning_form, 1, value)
            self.refuses_number(InvalidNumber, value, turning_form, value, None)
        self.assertEqual(turning_form(LONGEST, -LONGEST).coefficients, (LONGEST, -LONGEST, -4 * LONGEST, -LONGEST))
        self.refuses_number(InvalidNumber, LONG, turning_form, 1, LONG)

    def test_wrong_forms(self):
        for value in no_objects(Form):
            self.refuses(InvalidForm, {}, is_turning, value)
        for form in (NOTHING, Form((0, 0, 0, 1)), Form((0, 0, 1, 0)), Form((4, 0, -3, 1)), Form((LONGEST, 0, 0, 0))):
            self.refuses(InvalidOperation, {}, is_turning, form)

    def test_longer_coefficients(self):
        form = ROUND.led(((LONGEST, 1), (LONGEST - 1, 1)))
        self.assertGreater(form[0], LONG)
        self.assertIs(is_turning(form), True)
        self.assertIs(is_turning(ROOT.led(((LONGEST, 1), (LONGEST - 1, 1)))), False)


class NotTrue(unittest.TestCase):
    """[13.6], [0.20]"""

    def test_a_square_without_a_turn(self):
        form = Form((0, 1, 2, 0))
        self.assertEqual((form.discriminant, is_turning(form), has_turn(form)), (4, False, False))

    def test_turning_forms_with_one_discriminant(self):
        one, other = square_fields(63)
        self.assertEqual((one.discriminant, is_turning(one), is_turning(other)), (other.discriminant, True, True))
        self.assertIs(are_led(one, other), False)

    def test_periods_without_a_greatest_ring(self):
        self.assertIs(is_greatest(period_form(31)), False)

    def test_ten(self):
        self.assertEqual(third_form(10), Form((10, 0, 0, 1)))
        self.assertIs(is_greatest(third_form(10)), False)

    def test_turns_by_all_small_changes(self):
        for form in (ROUND, PLAIN, CUBIC, Form((0, 1, 2, 0))):
            found = [change for change in changes_to(2)
                     if form.led(change) == form and determinant_of(change) == 1 and change != IDLE]
            self.assertEqual(len(found) > 0, is_turning(form))

    def test_rings_below(self):
        # The turn of ROUND moves the three rings of the index 13 to one another, and keeps the only one of the index 7.
        self.assertEqual([is_turning(below(ROUND, 13, place)) for place in roots_at(ROUND, 13)], [False] * 3)
        self.assertEqual([is_turning(below(ROUND, 7, place)) for place in roots_at(ROUND, 7)], [True])


if __name__ == "__main__":
    unittest.main()
