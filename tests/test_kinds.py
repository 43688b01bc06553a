import itertools
import unittest

from formrings.above.steps import below, greatest, roots_at
from formrings.errors import InvalidForm, InvalidNumber, Refused
from formrings.form.forms import Form
from formrings.led.ways import are_led
from formrings.listing.lists import fields_of, rings_of
from formrings.prime import kinds
from formrings.prime.kinds import factors_at, kind_at, kinds_to, maps_at, times_in
from formrings.ring.rings import Ring
from tests.helper import (
    CUBIC, LONGEST, NO_INTEGERS, NO_PRIMES, NOTHING, PLAIN, ROOT, ROUND, Refusals, no_objects, rows_of, some_changes)

WORDS = ("all", "three", "pair", "none", "twice", "thrice")
CALLS = (kind_at, factors_at, maps_at, times_in)
FORMS = [Form(row) for row in rows_of(121, 25, 4, 12)] + [
    CUBIC, ROUND, PLAIN, ROOT, Form((0, 0, 1, 0)), Form((0, 0, 0, 1)), Form((1, 3, 3, 1)), Form((2, 0, 4, 2)),
    Form((0, 1, 1, 6)), Form((4, 2, 1, 1)), Form((0, 1, 0, 1)), Form((5, 1, 0, 0)), Form((7, 14, 0, 7)), NOTHING]


def multiplied(rows, prime):
    """The coefficients of the product of forms in x and y, the highest power of x first."""
    result = [1]
    for row in rows:
        found = [0] * (len(result) + len(row) - 1)
        for at, one in enumerate(result):
            for behind, other in enumerate(row):
                found[at + behind] = (found[at + behind] + one * other) % prime
        result = found
    return result


def expected_factors(form, prime):
    """The unit and the factors by a search for all products."""
    row = [number % prime for number in form.coefficients]
    linear = [(0, 1)] + [(1, u) for u in range(prime)]
    found = []
    for rows in itertools.combinations_with_replacement(linear, 3):
        found.append(rows)
    value = {2: lambda x, u, v: x * x + u * x + v}
    irreducible = [(1, u, v) for u in range(prime) for v in range(prime)
                   if all(value[2](x, u, v) % prime for x in range(prime))]
    found += [(one, two) for one in linear for two in irreducible]
    for rows in found:
        for unit in range(1, prime):
            if [unit * number % prime for number in multiplied(rows, prime)] == row:
                return unit, tuple(sorted((each, rows.count(each)) for each in set(rows)))
    unit = row[0]
    back = pow(unit, -1, prime)
    return unit, ((tuple(number * back % prime for number in row), 1),)


def kind_by_factors(factors):
    pattern = sorted((len(factor) - 1, times) for factor, times in factors)
    return {
        ((1, 1), (1, 1), (1, 1)): "three", ((1, 1), (2, 1)): "pair", ((3, 1),): "none", ((1, 1), (1, 2)): "twice",
        ((1, 3),): "thrice"}[tuple(pattern)]


class GreatPrimes(unittest.TestCase):
    """[9.1], [9.2], at primes at which not all residues are tried"""

    def test_factors_and_kinds(self):
        found = set()
        for prime in (5, 7, 101, 997, 1009, 9973):
            rows = rows_of(131, 14, 4, 10 ** 6)
            for i, j, k in rows_of(132, 6, 3, prime):
                for r, s, t in ((i, j, k), (i, i, k), (j, j, j)):
                    row = (1, -(r + s + t), r * s + r * t + s * t, -r * s * t)
                    rows += [row, row[::-1], tuple(3 * number % prime for number in row)]
                rows += [(0, 0, 1, k), (0, 1, i, j), (prime, 0, 0, 7), (0, 0, prime, k), (prime * i, prime, 0, 2 * prime)]
            for row in rows:
                form = Form(row)
                found.add(kind_at(form, prime))
                if kind_at(form, prime) == "all":
                    self.assertEqual([number % prime for number in row], [0] * 4)
                    continue
                unit, factors = factors_at(form, prime)
                self.assertEqual(kind_at(form, prime), kind_by_factors(factors))
                rows_told = [factor for factor, times in factors for _ in range(times)]
                self.assertEqual([unit * number % prime for number in multiplied(rows_told, prime)],
                                 [number % prime for number in row])
                for factor, _ in factors:
                    if len(factor) > 2:
                        self.assertFalse(any(self.value(factor, x) % prime == 0 for x in range(prime)))
        self.assertEqual(found, set(WORDS))

    def value(self, factor, x):
        result = 0
        for number in factor:
            result = result * x + number
        return result


class Examples(unittest.TestCase):
    def test_constants(self):
        self.assertEqual((kinds.MAX_PRIME, kinds.MAX_KINDS), (10000, 1000))

    def test_lines(self):
        self.assertEqual(
            ([kind_at(CUBIC, prime) for prime in (2, 3, 5, 23, 59)], [kind_at(ROUND, prime) for prime in (2, 7, 13)],
             kind_at(PLAIN, 2), kind_at(ROOT, 3), kind_at(Form((2, 0, 4, 2)), 2)),
            (['none', 'none', 'pair', 'twice', 'three'], ['none', 'thrice', 'three'], 'three', 'thrice', 'all'))
        self.assertEqual(
            (factors_at(CUBIC, 5), factors_at(CUBIC, 23), factors_at(PLAIN, 2)),
            ((1, (((1, 2, 4), 1), ((1, 4), 1))), (1, (((1, 3), 2), ((1, 18), 1))),
             (1, (((0, 1), 1), ((1, 0), 1), ((1, 1), 1)))))
        self.assertEqual((maps_at(CUBIC, 5), maps_at(PLAIN, 2), maps_at(Form((2, 0, 4, 2)), 2), maps_at(CUBIC, 2)),
                         (((4, 1),), ((0, 0), (0, 1), (1, 0)), ((0, 0),), ()))
        self.assertEqual(
            (times_in(CUBIC, 23), times_in(ROOT, 2), times_in(ROOT, 3), times_in(PLAIN, 7), kinds_to(PLAIN, 6)),
            (1, 2, 3, 0, {2: 'three', 3: 'three', 5: 'three'}))
        with self.assertRaises(Refused) as caught:
            factors_at(Form((2, 0, 4, 2)), 2)
        self.assertEqual(caught.exception.reason, ("all",))


class Factors(unittest.TestCase):
    """[9.1], [9.2]"""

    def test_all_forms_at_the_least_primes(self):
        for prime in (2, 3):
            seen = set()
            for row in itertools.product(range(prime), repeat=4):
                form = Form(row)
                seen.add(kind_at(form, prime))
                if any(row):
                    found = factors_at(form, prime)
                    self.assertEqual(found, expected_factors(form, prime))
                    self.assertEqual(kind_at(form, prime), kind_by_factors(found[1]))
                    moved = tuple(number + prime * step for number, step in zip(row, (3, -2, 10 ** 58, -7)))
                    self.assertEqual(factors_at(Form(moved), prime), found)
            self.assertEqual(seen, set(WORDS))

    def test_some_forms_at_more_primes(self):
        for form in FORMS:
            for prime in (5, 7, 11):
                if form.content % prime != 0:
                    self.assertEqual(factors_at(form, prime), expected_factors(form, prime))

    def test_the_product_is_the_form(self):
        for form in FORMS:
            for prime in (2, 3, 5, 13, 101, 997, 9973):
                if form.content % prime == 0:
                    self.assertEqual(kind_at(form, prime), "all")
                    continue
                unit, factors = factors_at(form, prime)
                self.assertTrue(1 <= unit < prime)
                self.assertEqual(list(factors), sorted(factors))
                rows = [factor for factor, times in factors for _ in range(times)]
                self.assertEqual([unit * number % prime for number in multiplied(rows, prime)],
                                 [number % prime for number in form.coefficients])
                for factor, _ in factors:
                    self.assertTrue(all(0 <= number < prime for number in factor))
                    self.assertTrue(factor == (0, 1) or factor[0] == 1)
                self.assertEqual(kind_at(form, prime), kind_by_factors(factors))
                told = sorted((1, -x % prime) if y == 1 else (0, 1) for x, y in roots_at(form, prime))
                self.assertEqual(told, sorted(factor for factor, _ in factors if len(factor) == 2))

    def test_the_discriminant(self):
        for form in FORMS:
            for prime in (2, 3, 5, 7, 23, 101):
                self.assertEqual(form.discriminant % prime == 0, kind_at(form, prime) in ("twice", "thrice", "all"))

    def test_each_kind_at_small_and_great_primes(self):
        for prime in (2, 3, 5, 9973):
            forms = {"all": CUBIC.times(prime), "twice": Form((0, 0, 1, 0)), "thrice": Form((prime, 0, 0, 1)),
                     "three": PLAIN}
            for word, form in forms.items():
                self.assertEqual(kind_at(form, prime), word)
            found = {kind_at(Form((1, 0, c, d)), prime) for c in range(-6, 7) for d in range(-6, 7)}
            self.assertLessEqual({"pair", "none"}, found)

    def test_led_forms(self):
        for form in FORMS:
            for change in some_changes(122, 6):
                for prime in (2, 3, 5, 7, 23):
                    self.assertEqual(kind_at(form.led(change), prime), kind_at(form, prime))

    def test_the_ring_modulo_a_prime(self):
        for form in FORMS:
            ring = Ring(form)
            for prime in (2, 3, 5):
                own, none = 0, 0
                for entries in itertools.product(range(prime), repeat=3):
                    z = ring.element(entries)
                    square = [number % prime for number in (z * z).entries]
                    own += square == list(entries)
                    none += square == [0, 0, 0]
                word = kind_at(form, prime)
                self.assertEqual(own, {"three": 8, "pair": 4, "none": 2, "twice": 4, "thrice": 2, "all": 2}[word])
                self.assertEqual(none, {"all": prime * prime, "twice": prime, "thrice": prime}.get(word, 1))


class Maps(unittest.TestCase):
    """[9.3]"""

    def test_against_all_pairs(self):
        for form in FORMS:
            a, b, c, d = form.coefficients
            for prime in (2, 3, 5, 7, 23):
                told = tuple(
                    (u, v) for u in range(prime) for v in range(prime)
                    if (u * v + a * d) % prime == 0 and (u * u + a * c - b * u + a * v) % prime == 0
                    and (v * v + b * d - d * u + c * v) % prime == 0)
                self.assertEqual(maps_at(form, prime), told)

    def test_great_primes(self):
        for form in FORMS:
            a, b, c, _ = form.coefficients
            told = sorted({((-a * x) % 9973, -(a * x * x + b * x + c) % 9973) if y == 1 else (b % 9973, 0)
                           for x, y in roots_at(form, 9973)})
            self.assertEqual(maps_at(form, 9973), tuple(told))
        self.assertEqual(maps_at(NOTHING, 9973), ((0, 0),))


class Times(unittest.TestCase):
    """[9.4]"""

    def test_how_often(self):
        for form in FORMS:
            if form.discriminant == 0:
                continue
            for prime in (2, 3, 5, 7, 23, 9973):
                found = times_in(form, prime)
                self.assertEqual(form.discriminant % prime ** found, 0)
                self.assertNotEqual(form.discriminant % prime ** (found + 1), 0)
                self.assertEqual(times_in(form.times(prime), prime), found + 4)
        self.assertEqual(times_in(Form((10 ** 59, 0, 0, 1)).times(7 ** 60), 7), 240)

    def test_greatest_rings(self):
        seen = set()
        for number in list(range(-700, 700)) + [-1323, -972, 3969, 1944, -2 ** 3 * 3 ** 5]:
            if number == 0:
                continue
            for form in rings_of(number):
                top, index = greatest(form)
                for prime in (2, 3, 5, 7):
                    word, times = kind_at(top, prime), times_in(top, prime)
                    times_of_index = 0
                    while index % prime ** (times_of_index + 1) == 0:
                        times_of_index += 1
                    self.assertEqual(times_in(form, prime), times + 2 * times_of_index)
                    self.assertNotEqual(word, "all")
                    allowed = {("twice", 2): (2, 3), ("thrice", 2): (2,), ("thrice", 3): (3, 4, 5)}
                    told = allowed.get((word, prime), {"twice": (1,), "thrice": (2,)}.get(word, (0,)))
                    self.assertIn(times, told, (top.coefficients, prime))
                    seen.add((word, prime if prime < 5 else 5, times))
        self.assertEqual(len(seen), 3 * 3 + 3 + 4 + 2)


class KindsTo(Refusals, unittest.TestCase):
    """[9.2]"""

    def test_keys_and_values(self):
        primes = [number for number in range(2, 1001) if all(number % each for each in range(2, int(number ** 0.5) + 1))]
        for form in (CUBIC, ROUND, NOTHING, Form((7, 14, 0, 7))):
            for most in (2, 3, 4, 5, 100, 997, 1000):
                found = kinds_to(form, most)
                self.assertIs(type(found), dict)
                self.assertEqual(list(found), [prime for prime in primes if prime <= most])
                for prime, word in found.items():
                    self.assertEqual(word, kind_at(form, prime))

    def test_the_bounds(self):
        for value in (0, 1, -2, 1001, LONGEST) + NO_INTEGERS:
            self.refuses_number(InvalidNumber, value, kinds_to, CUBIC, value)
        for value in no_objects(Form):
            self.refuses(InvalidForm, {}, kinds_to, value, 5)
            self.refuses(InvalidForm, {}, kinds_to, value, 1)


class Wrong(Refusals, unittest.TestCase):
    """[0.4], [0.7], and the errors of the stage"""

    def test_wrong_forms_and_primes(self):
        for call in CALLS:
            for value in no_objects(Form):
                self.refuses(InvalidForm, {}, call, value, 2)
                self.refuses(InvalidForm, {}, call, value, 4)
            for value in NO_PRIMES:
                self.refuses_number(InvalidNumber, value, call, CUBIC, value)
                self.refuses_number(InvalidNumber, value, call, NOTHING, value)

    def test_no_factors(self):
        for form in FORMS:
            for prime in (2, 3, 5, 7):
                if form.content % prime == 0:
                    self.refuses(Refused, {"reason": ("all",)}, factors_at, form, prime)
        self.refuses(Refused, {"reason": ("all",)}, factors_at, CUBIC.times(9973), 9973)

    def test_no_times(self):
        for form in (NOTHING, Form((0, 0, 1, 0)), Form((0, 0, 0, 7)), Form((4, 0, -3, 1))):
            for prime in (2, 7, 9973):
                self.refuses(Refused, {"reason": ("zero",)}, times_in, form, prime)


class NotTrue(unittest.TestCase):
    """[9.5]"""

    def test_the_same_kinds_at_all_primes(self):
        form = Form((0, 1, 1, 2))
        one, other = [below(form, 2, place) for place in ((0, 1), (1, 0))]
        self.assertEqual(kinds_to(one, 1000), kinds_to(other, 1000))
        self.assertIs(are_led(one, other), False)

    def test_other_discriminants(self):
        one, other = PLAIN, PLAIN.times(2)
        self.assertNotEqual(one.discriminant, other.discriminant)
        for prime, word in kinds_to(one, 1000).items():
            if prime != 2:
                self.assertEqual(kind_at(other, prime), word)

    def test_a_prime_that_divides_a_value(self):
        self.assertEqual((CUBIC(1, 1), kind_at(CUBIC, 5)), (5, "pair"))

    def test_no_rational_root(self):
        self.assertEqual((kind_at(CUBIC, 2), CUBIC.roots()), ("none", ()))
        for number in (-23, -31, 49, 81, -108, -3299):
            for form in fields_of(number):
                self.assertIn("none", kinds_to(form, 50).values())


if __name__ == "__main__":
    unittest.main()
