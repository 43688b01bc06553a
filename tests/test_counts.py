import itertools
import math
import unittest

from formrings.above import counts
from formrings.above.counts import count_below, form_below, series, tables_below
from formrings.above.steps import below, heavy_places, roots_at
from formrings.errors import InvalidForm, InvalidNumber, InvalidOperation, TooMany
from formrings.form.forms import Form
from formrings.led.least import least_form
from formrings.listing.lists import fields_of, rings_of, with_roots
from formrings.ring.rings import Ring, ring_by_table
from tests.helper import (
    CUBIC, LONG, LONGEST, NO_INTEGERS, NO_PRIMES, NO_TUPLES, NOTHING, OBJECTS, PLAIN, ROOT, ROUND, Refusals, nested,
    no_objects, rows_of)

FORMS = [CUBIC, ROUND, PLAIN, ROOT, Form((0, 1, 1, 6)), Form((1, 1, 1, 2)), Form((3, 5, 7, 6)), Form((0, 1, 1, 2)),
         Form((1, 0, 0, -3)), Form((1, 0, 1, 1)), Form((0, 1, 0, -2)), Form((1, 0, -4, -1))]
# With heavy roots, with contents, and with the discriminant 0.
HEAVY = [Form((4, 2, 1, 1)), Form((2, 2, 0, 2)), Form((0, 2, 2, 0)), Form((0, 2, 1, 0)), Form((9, 3, 1, 1)),
         Form((12, 0, 6, 3)), Form((8, 4, 2, 1)), Form((0, 0, 1, 0)), NOTHING, Form((0, 0, 0, 6)), Form((1, 0, 0, -10))]


def tables_by_words(form, number):
    found = []
    for u in range(1, number + 1):
        for s in range(1, number + 1):
            for v in range(s):
                if u * s == number and all(each % number == 0 for each in by_words(form, u, v, s)):
                    found.append(((u, v), (0, s)))
    return tuple(sorted(found))


def by_words(form, u, v, s):
    """The coefficients of f(u x, v x + s y)."""
    # The x of f is u x, and its y is v x + s y.
    values = [form(u * x, v * x + s * y) for x, y in ((1, 0), (0, 1), (1, 1), (1, -1))]
    a, d = values[0], values[1]
    c = (values[2] + values[3]) // 2 - a
    return (a, values[2] - a - c - d, c, d)


def is_ring_within(form, u, v, s):
    """The form of the lattice of 1, u w + v t and s t, by its products, or None if they are not in it."""
    ring = Ring(form)
    first, second = ring.element((0, u, v)), ring.element((0, 0, s))
    table = []
    for value in (first * first, first * second, second * second):
        one, x, y = value.entries
        if x % u != 0 or (y - x // u * v) % s != 0:
            return None
        table.append((one, x // u, (y - x // u * v) // s))
    return ring_by_table(tuple(table))[0].form


def top_by_words(form, prime):
    many = len(roots_at(form, prime))
    if many == 3:
        return [1, 3, 3, 1]
    if many == 2:
        return [1, 2, 1, 0]
    if many == 1:
        return [1, 1, 0, 0] if form.discriminant % prime == 0 else [1, 1, 1, 1]
    return [1, 0, 0, 1]


def series_by_words(form, prime, many):
    """N times the sums of X^(2 i) and of p^j X^(3 j)."""
    found = []
    for power in range(many):
        total = 0
        for at, number in enumerate(top_by_words(form, prime)):
            for j in range(many):
                left = power - at - 3 * j
                if left >= 0 and left % 2 == 0:
                    total += number * prime ** j
        found.append(total)
    return tuple(found)


def is_barred(form, prime):
    return form.content % prime == 0 or bool(heavy_places(form, prime))


class Examples(unittest.TestCase):
    def test_constants(self):
        self.assertEqual((counts.MAX_TABLED, counts.MAX_COUNTED, counts.MAX_SERIES), (200, 10000, 60))

    def test_lines(self):
        self.assertEqual(
            [tables_below(PLAIN, 2), tables_below(CUBIC, 4), count_below(CUBIC, 2), count_below(PLAIN, 16)],
            [(((1, 0), (0, 2)), ((1, 1), (0, 2)), ((2, 0), (0, 1))), (((2, 0), (0, 2)),), 0, 10])
        self.assertEqual([str(form_below(PLAIN, table)) for table in tables_below(PLAIN, 2)],
                         ['(0, 1, 2, 0)', '(1, 3, 2, 0)', '(0, 2, 1, 0)'])
        self.assertEqual([series(PLAIN, 2, 5), series(CUBIC, 2, 5), series(CUBIC, 23, 3), count_below(CUBIC, 10000)],
                         [(1, 3, 4, 6, 10), (1, 0, 1, 3, 1), (1, 2, 2), 7])
        with self.assertRaises(TooMany) as caught:
            count_below(Form((0, 2, 2, 0)), 202)
        self.assertEqual(caught.exception.most, 200)


class Tables(unittest.TestCase):
    """[8.1], [8.2]"""

    def test_against_all_tables(self):
        for form in FORMS + HEAVY + [Form(row) for row in rows_of(111, 12, 4, 9)]:
            for number in (1, 2, 3, 4, 6, 8, 9, 12, 16):
                found = tables_below(form, number)
                self.assertEqual(found, tables_by_words(form, number), (form.coefficients, number))
                self.assertEqual(count_below(form, number), len(found))

    def test_great_indices(self):
        for form in (CUBIC, PLAIN, Form((12, 0, 6, 3))):
            for number in (64, 97, 128, 199, 200):
                self.assertEqual(tables_below(form, number), tables_by_words(form, number))
        self.assertEqual(len(tables_below(NOTHING, 200)), sum(s for s in range(1, 201) if 200 % s == 0))

    def test_forms_by_tables(self):
        for form in FORMS + HEAVY:
            for number in (1, 2, 3, 4, 5, 8, 9):
                for (u, v), (_, s) in tables_below(form, number):
                    found = form_below(form, ((u, v), (0, s)))
                    self.assertEqual(found.coefficients, tuple(each // number for each in by_words(form, u, v, s)))
                    self.assertEqual(found.discriminant, form.discriminant * number * number)

    def test_they_are_the_rings_within(self):
        for form in FORMS + HEAVY:
            for number in (2, 3, 4, 6, 9):
                told = {}
                for u in range(1, number + 1):
                    if number % u == 0:
                        for v in range(number // u):
                            within = is_ring_within(form, u, v, number // u)
                            if within is not None:
                                told[((u, v), (0, number // u))] = within
                self.assertEqual(tables_below(form, number), tuple(sorted(told)))
                for table, within in told.items():
                    self.assertEqual(least_form(within), least_form(form_below(form, table)))

    def test_great_tables_go_too(self):
        table = ((LONGEST, 0), (0, LONGEST))
        self.assertEqual(form_below(CUBIC, table), CUBIC.times(LONGEST))
        self.assertEqual(form_below(NOTHING, ((7, 10 ** 50), (0, LONGEST))), NOTHING)
        self.assertEqual(form_below(PLAIN, ((1, 0), (0, 10 ** 40))), Form((0, 1, 10 ** 40, 0)))
        self.assertEqual(form_below(CUBIC, ((1, 0), (0, 1))), CUBIC)


class Numbers(unittest.TestCase):
    """[8.3], [8.4]"""

    def test_they_are_multiplied(self):
        for form in FORMS + HEAVY:
            for one, other in itertools.combinations(range(1, 15), 2):
                if math.gcd(one, other) == 1 and one * other <= 200:
                    self.assertEqual(count_below(form, one * other), count_below(form, one) * count_below(form, other))

    def test_tables_and_roots(self):
        for form in FORMS + HEAVY:
            for prime in (2, 3, 5, 7):
                alike = {}
                for table in tables_below(form, prime):
                    if table[1][1] == 1:
                        place = (0, 1)
                    elif table[0][1] == 0:
                        place = (1, 0)
                    else:
                        place = (pow(table[0][1], -1, prime), 1)
                    alike[place] = form_below(form, table)
                self.assertEqual(tuple(sorted(alike)), roots_at(form, prime))
                for place, found in alike.items():
                    self.assertEqual(least_form(found), least_form(below(form, prime, place)))

    def test_the_series(self):
        seen = set()
        for form in FORMS + [Form(row) for row in rows_of(112, 30, 4, 9)]:
            for prime in (2, 3, 5, 7, 11, 13, 23, 31):
                if is_barred(form, prime):
                    continue
                found = series(form, prime, 7)
                self.assertEqual(found, series_by_words(form, prime, 7))
                for power in range(7):
                    if prime ** power <= 200:
                        self.assertEqual(found[power], len(tables_below(form, prime ** power)), (form.coefficients, prime))
                seen.add((len(roots_at(form, prime)), form.discriminant % prime == 0))
        self.assertEqual(seen, {(0, False), (1, False), (1, True), (2, True), (3, False)})

    def test_lengths(self):
        for many in (1, 2, 3, 4, 59, 60):
            for form, prime in ((PLAIN, 2), (CUBIC, 2), (CUBIC, 5), (ROUND, 7), (CUBIC, 23), (CUBIC, 9973)):
                self.assertEqual(series(form, prime, many), series_by_words(form, prime, many))

    def test_great_numbers(self):
        for form in FORMS:
            for number in (201, 256, 400, 529, 1024, 2187, 4096, 5041, 6561, 8192, 9604, 9801, 9973, 9999, 10000):
                told = 1
                for prime in range(2, number + 1):
                    times = 0
                    while number % prime ** (times + 1) == 0:
                        times += 1
                    if times and all(prime % each for each in range(2, int(prime ** 0.5) + 1)):
                        if is_barred(form, prime):
                            told = None
                            break
                        told *= series_by_words(form, prime, times + 1)[times]
                if told is not None:
                    self.assertEqual(count_below(form, number), told, (form.coefficients, number))

    def test_heavy_roots_at_other_primes(self):
        form = Form((4, 2, 1, 1))
        self.assertTrue(is_barred(form, 2))
        self.assertEqual(count_below(form, 3 ** 8), series(form, 3, 9)[8])
        self.assertEqual(count_below(form, 128), len(tables_by_words(form, 128)))

    def test_rings_counted_by_discriminants(self):
        """[6.3]"""
        for number in [-n for n in range(1, 700)] + [-2012, -9680, -20736, -27648, -44 * 144, -31 * 900, -23 * 64 * 64]:
            told = 0
            for n in range(1, 200):
                if number % (n * n) == 0:
                    for form in fields_of(number // (n * n)):
                        told += count_below(form, n)
            self.assertEqual(len(rings_of(number)) - len(with_roots(number)), told, number)


class Refused(Refusals, unittest.TestCase):
    """[0.4], [0.7], and the errors of the stage"""

    def test_wrong_forms(self):
        for value in no_objects(Form):
            for call in (tables_below, count_below):
                self.refuses(InvalidForm, {}, call, value, 2)
                self.refuses(InvalidForm, {}, call, value, 0)
            self.refuses(InvalidForm, {}, form_below, value, ((1, 0), (0, 1)))
            self.refuses(InvalidForm, {}, form_below, value, None)
            self.refuses(InvalidForm, {}, series, value, 2, 3)
            self.refuses(InvalidForm, {}, series, value, 4, 0)

    def test_wrong_numbers(self):
        for value in (0, -1, -200, LONGEST) + NO_INTEGERS:
            for call in (tables_below, count_below):
                self.refuses_number(InvalidNumber, value, call, PLAIN, value)
                self.refuses_number(InvalidNumber, value, call, NOTHING, value)
            self.refuses_number(InvalidNumber, value, series, PLAIN, 2, value)
            self.refuses_number(InvalidNumber, value, series, NOTHING, 2, value)
        self.refuses_number(InvalidNumber, 201, tables_below, PLAIN, 201)
        self.refuses_number(InvalidNumber, 10001, count_below, PLAIN, 10001)
        self.refuses_number(InvalidNumber, 10002, count_below, Form((0, 2, 2, 0)), 10002)
        self.refuses_number(InvalidNumber, 61, series, PLAIN, 2, 61)
        self.assertEqual((len(tables_below(CUBIC, 1)), count_below(CUBIC, 1)), (1, 1))

    def test_wrong_primes(self):
        for value in NO_PRIMES:
            self.refuses_number(InvalidNumber, value, series, PLAIN, value, 3)
            self.refuses_number(InvalidNumber, value, series, PLAIN, value, 0)
            self.refuses_number(InvalidNumber, value, series, NOTHING, value, 3)

    def test_wrong_tables(self):
        for value in NO_TUPLES + (
                (), ((1, 0),), ((1, 0), (0, 2), (0, 0)), ((1, 0), (0, 0)), ((0, 0), (0, 2)), ((-1, 0), (0, 2)),
                ((1, 0), (0, -2)), ((-1, 0), (0, -2)), ((1, 2), (0, 2)), ((1, -1), (0, 2)), ((1, 3), (0, 2)),
                ((1, 0), (1, 2)), ((1, 0), (0,)), ((1,), (0, 2)), ((1, 0, 0), (0, 2)), ((True, 0), (0, 2)),
                ((1, False), (0, 2)), ((1, 0), (False, 2)), ((1, 0), (0, True)), ([1, 0], (0, 2)), [(1, 0), (0, 2)],
                ((1, 0), None), (None, (0, 2)), (("1", 0), (0, 2)), ((1, None), (0, 2)), ("10", "02"), nested(8),
                ((LONG, 0), (0, LONG)), ((1, 0), (0, LONG)), (((1,), 0), (0, 2)), {(1, 0): (0, 2)}) + OBJECTS:
            self.refuses(InvalidOperation, {}, form_below, PLAIN, value)
            self.refuses(InvalidOperation, {}, form_below, NOTHING, value)

    def test_tables_that_do_not_go(self):
        for form in FORMS + HEAVY:
            for number in (2, 3, 4):
                for table in tables_below(NOTHING, number):
                    if table not in tables_below(form, number):
                        self.refuses(InvalidOperation, {}, form_below, form, table)
        self.refuses(InvalidOperation, {}, form_below, CUBIC, ((1, 0), (0, 2)))

    def test_too_many(self):
        for form in HEAVY:
            for prime in (2, 3, 5, 7):
                for number in (prime * 101, prime * 201, prime ** 4 * 3, 9600 // prime * prime):
                    if number > 200 and is_barred(form, prime):
                        self.refuses(TooMany, {"most": 200}, count_below, form, number)
        self.assertEqual(count_below(NOTHING, 200), sum(s for s in range(1, 201) if 200 % s == 0))
        self.refuses(TooMany, {"most": 200}, count_below, NOTHING, 201)
        self.refuses(TooMany, {"most": 200}, count_below, Form((0, 0, 1, 0)), 211)
        self.refuses(TooMany, {"most": 200}, count_below, Form((0, 101, 101, 0)), 202)

    def test_no_series(self):
        for form in HEAVY:
            for prime in (2, 3, 5):
                if is_barred(form, prime):
                    self.refuses(InvalidOperation, {}, series, form, prime, 4)
        for prime in (2, 3, 9973):
            self.refuses(InvalidOperation, {}, series, Form((0, 0, 1, 0)), prime, 1)
        self.refuses(InvalidOperation, {}, series, CUBIC.times(9973), 9973, 1)


class NotTrue(unittest.TestCase):
    """[8.5]"""

    def test_an_index_of_4_without_one_of_2(self):
        self.assertEqual((count_below(CUBIC, 4), count_below(CUBIC, 2)), (1, 0))

    def test_equal_discriminants(self):
        other = Form((0, 1, 1, 6))
        self.assertEqual(CUBIC.discriminant, other.discriminant)
        self.assertEqual((count_below(CUBIC, 2), count_below(other, 2)), (0, 3))

    def test_the_series_is_not_for_each_ring(self):
        self.assertEqual((count_below(PLAIN.times(2), 4), count_below(PLAIN, 4)), (7, 4))
        self.assertEqual(series(PLAIN, 2, 3)[2], 4)


if __name__ == "__main__":
    unittest.main()
