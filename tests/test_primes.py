import itertools
import unittest

from formrings.above.steps import heavy_places, is_greatest, roots_at
from formrings.errors import InvalidForm, InvalidIdeal, InvalidNumber, InvalidOperation, InvalidRing, Refused, TooMany
from formrings.form.forms import Form
from formrings.ideal import primes
from formrings.ideal.ideals import Ideal, inverse_of, is_undone, made_by, quotient, whole
from formrings.ideal.primes import count_ideals, factors_of, ideals_of, is_factors, is_prime_ideal, primes_over
from formrings.led.ways import turns
from formrings.prime.kinds import factors_at, kind_at
from formrings.ring.rings import Ring
from tests.helper import (
    CUBIC, LONG, LONGEST, NO_INTEGERS, NO_PRIMES, NO_TUPLES, NOTHING, OBJECTS, PLAIN, ROOT, ROUND, Refusals, nested,
    no_objects, numbers)

UNITS = ((1, 0, 0), (0, 1, 0), (0, 0, 1))
GREATEST = [Ring(form) for form in (CUBIC, ROUND, PLAIN, ROOT, Form((0, 1, 1, 6)), Form((1, 0, 1, 1)), Form((0, 1, 0, 1)))]
OTHERS = [Ring(Form(row)) for row in (
    (0, 2, 1, 0), (4, 2, 1, 1), (0, 2, 2, 0), (2, 2, 0, 2), (9, 3, 1, 1), (12, 0, 6, 3), (1, 0, 0, -10), (0, 0, 1, 0),
    (0, 0, 0, 2), (0, 0, 0, 0), (3, 3, 6, 3), (5, 5, 10, 5))]
RINGS = GREATEST + OTHERS
MILLION = 10 ** 6


def multiple(ring, number):
    return Ideal(ring, tuple(tuple(number * each for each in row) for row in UNITS))


def all_plain_rows(size):
    """All plain rows with this index."""
    for i, j, k in itertools.product(range(1, size + 1), repeat=3):
        if i * j * k == size:
            for x, y, z in itertools.product(range(j), range(k), range(k)):
                yield ((i, x, y), (0, j, z), (0, 0, k))


def rest(rows, row):
    """The row of the same class, by the plain rows, that is like a row ahead of them."""
    left = list(row)
    for at, step in enumerate(rows):
        times = left[at] // step[at]
        left = [one - times * other for one, other in zip(left, step)]
    return tuple(left)


def is_closed(ring, rows):
    for row in rows:
        element = ring.element(row)
        for other in (ring.w(), ring.t()):
            if any(rest(rows, (element * other).entries)):
                return False
    return True


def is_prime_by_words(ring, rows):
    """Whether no two classes other than that of 0 have a product in that of 0."""
    (i, _, _), (_, j, _), (_, _, k) = rows
    if i * j * k == 1:
        return False
    classes = [ring.element(row) for row in itertools.product(range(i), range(j), range(k)) if any(row)]
    for one, other in itertools.combinations_with_replacement(classes, 2):
        if not any(rest(rows, (one * other).entries)):
            return False
    return True


def power(ideal, many):
    found = whole(ideal.ring)
    for _ in range(abs(many)):
        found = found * (ideal if many > 0 else inverse_of(ideal))
    return found


class Examples(unittest.TestCase):
    def test_constants(self):
        self.assertEqual((primes.MAX_LISTED_NORM, primes.MAX_NORM), (100, 1000000))

    def test_lines(self):
        ring = Ring(CUBIC)
        self.assertEqual(
            [[(ideal.rows, degree) for ideal, degree in primes_over(ring, prime)] for prime in (2, 23)],
            [[(((2, 0, 0), (0, 2, 0), (0, 0, 2)), 3)],
             [(((1, 0, 3), (0, 1, 9), (0, 0, 23)), 1), (((1, 0, 18), (0, 1, 2), (0, 0, 23)), 1)]])
        one, other = [ideal for ideal, degree in primes_over(ring, 23)]
        every = Ideal(ring, ((23, 0, 0), (0, 23, 0), (0, 0, 23)))
        self.assertEqual(
            [one * one * other == every, is_undone(one), is_prime_ideal(one * other), is_prime_ideal(other)],
            [True, True, False, True])
        self.assertEqual([(ideal == one, times) for ideal, times in factors_of(every)], [(True, 2), (False, 1)])
        self.assertEqual(
            [is_factors(one * other, ((other, 1), (one, 1))), is_factors(one * other, ((one, 1),)),
             is_factors(inverse_of(one), ((one, -1),))],
            [True, False, True])
        self.assertEqual(
            ([count_ideals(CUBIC, norm) for norm in (1, 2, 5, 8, 23, 25, 529)],
             [ideal.rows for ideal in ideals_of(Ring(PLAIN), 2)], len(ideals_of(Ring(PLAIN), 4))),
            ([1, 0, 1, 1, 2, 2, 3],
             [((1, 0, 1), (0, 1, 0), (0, 0, 2)), ((1, 1, 0), (0, 2, 0), (0, 0, 1)), ((2, 0, 0), (0, 1, 0), (0, 0, 1))],
             6))
        within = Ring(Form((0, 2, 1, 0)))
        self.assertEqual([(ideal.rows, is_undone(ideal)) for ideal, degree in primes_over(within, 2)],
                         [(((1, 0, 1), (0, 1, 0), (0, 0, 2)), True), (((2, 0, 0), (0, 1, 0), (0, 0, 1)), False)])
        with self.assertRaises(Refused) as caught:
            count_ideals(Form((0, 2, 1, 0)), 3)
        self.assertEqual(caught.exception.reason, ("bar",))


class Over(unittest.TestCase):
    """[11.1], [11.2]"""

    def test_against_all_ideals(self):
        kinds = set()
        for ring in RINGS:
            for prime in (2, 3):
                told = []
                for degree in (1, 2, 3):
                    told += sorted((degree, rows) for rows in all_plain_rows(prime ** degree)
                                   if is_closed(ring, rows) and is_prime_by_words(ring, rows))
                found = primes_over(ring, prime)
                self.assertIs(type(found), tuple)
                self.assertEqual([(degree, ideal.rows) for ideal, degree in found], told, (str(ring), prime))
                for ideal, degree in found:
                    self.assertEqual((type(ideal), ideal.norm, ideal.bottom), (Ideal, (prime ** degree, 1), 1))
                kinds.add(kind_at(ring.form, prime))
        self.assertEqual(len(kinds), 6)

    def test_by_the_roots(self):
        for ring in RINGS:
            a, b, c, _ = ring.form.coefficients
            for prime in (5, 7, 23, 9973):
                found = primes_over(ring, prime)
                if ring.form.content % prime == 0:
                    self.assertEqual([(ideal.rows, degree) for ideal, degree in found],
                                     [(((prime, 0, 0), (0, 1, 0), (0, 0, 1)), 1)])
                    continue
                told = []
                for x, y in roots_at(ring.form, prime):
                    rows = ((prime, 0, 0), (a * x, 1, 0), (a * x * x + b * x + c, 0, 1))
                    told.append(Ideal(ring, rows if y == 1 else ((prime, 0, 0), (-b, 1, 0), (0, 0, 1))))
                self.assertEqual([ideal.rows for ideal, degree in found if degree == 1],
                                 sorted(ideal.rows for ideal in told))
                self.assertEqual(sorted(degree for _, degree in found),
                                 sorted(len(factor) - 1 for factor, _ in factors_at(ring.form, prime)[1]))
                word = kind_at(ring.form, prime)
                if word == "pair":
                    self.assertEqual(found[1][0], quotient(multiple(ring, prime), found[0][0]))
                if word == "none":
                    self.assertEqual(found, ((multiple(ring, prime), 3),))
                self.assertEqual([degree for _, degree in found], sorted(degree for _, degree in found))

    def test_members_of_the_ideal_of_a_root(self):
        for ring in RINGS:
            a, b, c, _ = ring.form.coefficients
            for prime in (2, 3, 5):
                if ring.form.content % prime == 0:
                    continue
                for x, y in roots_at(ring.form, prime):
                    told = 0
                    for ideal, degree in primes_over(ring, prime):
                        right = True
                        for u, v, z in itertools.product(range(prime), repeat=3):
                            value = u - a * x * v - (a * x * x + b * x + c) * z if y == 1 else u + b * v
                            right = right and (ring.element((u, v, z)) in ideal) == (value % prime == 0)
                        told += right
                    self.assertEqual(told, 1)


class Products(unittest.TestCase):
    """[11.3], [11.4]"""

    def test_products_over_a_prime(self):
        seen = set()
        for ring in RINGS:
            for prime in (2, 3, 5, 7, 23, 31):
                word = kind_at(ring.form, prime)
                if word == "all":
                    continue
                found = [ideal for ideal, _ in primes_over(ring, prime)]
                double = [place for place in roots_at(ring.form, prime) if self.is_double(ring.form, prime, place)]
                product = whole(ring)
                for ideal in found:
                    times = 3 if word == "thrice" else 1
                    if word == "twice" and ideal == self.by_root(ring, prime, double[0]):
                        times = 2
                    for _ in range(times):
                        product = product * ideal
                if word in ("twice", "thrice") and double[0] in heavy_places(ring.form, prime):
                    seen.add((word, "heavy"))
                    continue
                self.assertEqual(product, multiple(ring, prime), (str(ring), prime))
                seen.add((word, "light"))
        self.assertEqual(len(seen), 7)

    def is_double(self, form, prime, place):
        moved = form.led((place, (1, 0)) if place[1] == 1 else ((1, 0), (0, 1)))
        return moved[0] % prime == 0 and moved[1] % prime == 0

    def by_root(self, ring, prime, place):
        a, b, c, _ = ring.form.coefficients
        x, y = place
        rows = ((prime, 0, 0), (a * x, 1, 0), (a * x * x + b * x + c, 0, 1))
        return Ideal(ring, rows if y == 1 else ((prime, 0, 0), (-b, 1, 0), (0, 0, 1)))

    def test_which_can_be_undone(self):
        seen = set()
        for ring in RINGS:
            for prime in (2, 3, 5, 7):
                heavy = [self.by_root(ring, prime, place) for place in heavy_places(ring.form, prime)]
                for ideal, _ in primes_over(ring, prime):
                    full = ring.form.content % prime == 0
                    self.assertIs(is_undone(ideal), not full and ideal not in heavy)
                    own = quotient(ideal, ideal)
                    norm = (1, prime ** 2) if full else (1, prime) if ideal in heavy else (1, 1)
                    self.assertEqual(own.norm, norm)
                    seen.add(norm[1] // prime if norm[1] > 1 else 0)
                for x, y in heavy_places(ring.form, prime):
                    if ring.form.content % prime != 0:
                        own = quotient(self.by_root(ring, prime, (x, y)), self.by_root(ring, prime, (x, y)))
                        told = [ring.w(), (ring.w().scaled(x) + ring.t())] if y == 1 else [ring.t(), ring.w()]
                        near = [(told[1] + ring.one().scaled(i)).scaled(1, prime) in own for i in range(prime)]
                        self.assertEqual((told[0] in own, near.count(True)), (True, 1))
        self.assertGreaterEqual(seen, {0, 1, 2, 3})


class Judged(Refusals, unittest.TestCase):
    """[11.1]"""

    def test_against_all_ideals_of_small_norms(self):
        for ring in RINGS:
            for norm in (1, 2, 3, 4, 5, 6, 7, 8, 9, 12):
                for ideal in ideals_of(ring, norm):
                    self.assertIs(is_prime_ideal(ideal), is_prime_by_words(ring, ideal.rows), (str(ring), ideal.rows))

    def test_great_norms(self):
        ring = Ring(CUBIC)
        for prime in (59, 101, 83, 89, 97, 13, 11, 5):
            for ideal, degree in primes_over(ring, prime):
                self.assertIs(is_prime_ideal(ideal), True)
                if prime ** (2 * degree) <= MILLION:
                    self.assertIs(is_prime_ideal(ideal * ideal), False)
        self.assertEqual([is_prime_ideal(multiple(ring, number)) for number in (2, 3, 5, 97, 100)],
                         [True, True, False, kind_at(CUBIC, 97) == "none", False])
        flat = Ring(PLAIN)
        for prime in (9973, 10007, 999983):
            ideal = Ideal(flat, ((prime, 0, 0), (0, 1, 0), (0, 0, 1)))
            self.assertIs(is_prime_ideal(ideal), True)
        self.assertIs(is_prime_ideal(Ideal(flat, ((999981, 0, 0), (0, 1, 0), (0, 0, 1)))), False)
        self.assertIs(is_prime_ideal(Ideal(flat, ((MILLION, 0, 0), (0, 1, 0), (0, 0, 1)))), False)
        self.assertIs(is_prime_ideal(multiple(Ring(ROOT), 100)), False)

    def test_squares_of_great_primes(self):
        for prime in (967, 971, 977, 983, 991, 997):
            for ideal, degree in primes_over(Ring(CUBIC), prime):
                if degree < 3:
                    self.assertIs(is_prime_ideal(ideal), True)
                else:
                    self.refuses(TooMany, {"most": MILLION}, is_prime_ideal, ideal)

    def test_what_does_not_lie_in_the_ring(self):
        ring = Ring(CUBIC)
        for ideal in (whole(ring), Ideal(ring, UNITS, 2), inverse_of(primes_over(ring, 23)[0][0]),
                      Ideal(ring, ((LONGEST, 0, 0), (0, LONGEST, 0), (0, 0, LONGEST)), 2)):
            self.assertIs(is_prime_ideal(ideal), False)

    def test_too_great_norms(self):
        flat = Ring(PLAIN)
        for number in (MILLION + 1, MILLION + 3, LONGEST):
            self.refuses(TooMany, {"most": MILLION}, is_prime_ideal,
                         Ideal(flat, ((number, 0, 0), (0, 1, 0), (0, 0, 1))))
        self.refuses(TooMany, {"most": MILLION}, is_prime_ideal, multiple(flat, 101))


class Factors(Refusals, unittest.TestCase):
    """[11.5], [0.15]"""

    def products(self, seed, many):
        """Products of prime ideals with numbers of times above and below 0, and the pairs."""
        source = numbers(seed)
        for at in range(many):
            ring = GREATEST[at % len(GREATEST)]
            pairs = []
            for prime in source.sample((2, 3, 5, 7, 23), 2):
                for ideal, degree in primes_over(ring, prime):
                    times = source.choice((-2, -1, 0, 0, 1, 2, 3) if prime ** degree < 9 else (-1, 0, 0, 1))
                    if times:
                        pairs.append((prime, ideal, times))
            product = whole(ring)
            for _, ideal, times in pairs:
                product = product * power(ideal, times)
            size = product.rows[0][0] * product.rows[1][1] * product.rows[2][2]
            if max(size, product.bottom) <= MILLION:
                pairs = sorted(pairs, key=lambda item: item[0])
                yield product, tuple((ideal, times) for _, ideal, times in pairs)

    def test_products_of_prime_ideals(self):
        tried = 0
        for product, pairs in self.products(141, 140):
            found = factors_of(product)
            self.assertEqual(found, pairs)
            self.assertTrue(all(isinstance(pair, tuple) and isinstance(pair[0], Ideal) for pair in found))
            self.assertEqual(product.bottom == 1, all(times > 0 for _, times in found))
            tried += 1
        self.assertGreater(tried, 60)

    def test_values_near_factors(self):
        for product, pairs in self.products(142, 24):
            for value in (pairs, pairs[::-1], pairs[1:] + pairs[:1]):
                self.assertIs(is_factors(product, value), True)
            other = primes_over(product.ring, 11)[0][0]
            wrong = [pairs + ((other, 1),), pairs + ((other, 0),), list(pairs), (pairs,), pairs + (None,), pairs + ((),)]
            for at, (ideal, times) in enumerate(pairs):
                ahead, behind = pairs[:at], pairs[at + 1:]
                wrong += [ahead + behind, pairs + (pairs[at],), ahead + ((ideal, times + 1),) + behind,
                          ahead + ((ideal, -times),) + behind, ahead + ((ideal, times, 1),) + behind,
                          ahead + ([ideal, times],) + behind, ahead + ((times, ideal),) + behind,
                          ahead + ((other, times),) + behind, ahead + ((ideal, str(times)),) + behind,
                          ahead + ((ideal.rows, times),) + behind, ahead + ((ideal, None),) + behind,
                          ahead + ((ideal,),) + behind, ahead + ((ideal, (times,)),) + behind,
                          ahead + ((ideal, times), (ideal, times)) + behind[1:]]
                if times == 1:
                    wrong.append(ahead + ((ideal, True),) + behind)
            for value in wrong:
                self.assertIs(is_factors(product, value), False, value)

    def test_one_pair_twice_in_the_place_of_two(self):
        ring = Ring(CUBIC)
        one, other = [ideal for ideal, _ in primes_over(ring, 23)]
        self.assertIs(is_factors(one * other, ((one, 1), (one, 1))), False)
        self.assertIs(is_factors(one * one, ((one, 1), (one, 1))), False)
        self.assertIs(is_factors(one * one, ((one, 2),)), True)

    def test_any_values(self):
        ring = Ring(CUBIC)
        for value in NO_TUPLES + (nested(8), ((whole(ring), 1),), ((None, 1),), ((OBJECTS[0], 1),), (1,), (((), ()),)):
            self.assertIs(is_factors(whole(ring), value), False)
            self.assertIs(is_factors(primes_over(ring, 23)[0][0], value), False)
        self.assertIs(is_factors(whole(ring), ()), True)
        self.assertEqual(factors_of(whole(ring)), ())
        equal = Ring(Form((1, 1, 2, 1)))
        self.assertIs(is_factors(primes_over(ring, 23)[0][0], ((primes_over(equal, 23)[0][0], 1),)), True)
        self.assertIs(is_factors(primes_over(ring, 23)[0][0], ((primes_over(ring, 23)[0][0], 1 + 10 ** 99),)), False)

    def test_great_ideals(self):
        flat = Ring(PLAIN)
        for prime in (9973, 10007, 999983):
            ideal = Ideal(flat, ((prime, 0, 0), (0, 1, 0), (0, 0, 1)))
            self.assertEqual(factors_of(ideal), ((ideal, 1),))
        ideal = Ideal(flat, ((999983, 0, 0), (0, 1, 0), (0, 0, 1)), 999979)
        found = factors_of(ideal)
        self.assertEqual([times for _, times in found], [-1, -1, -1, 1])
        self.assertEqual([ideal.norm[0] for ideal, _ in found], [999979] * 3 + [999983])
        self.assertEqual(factors_of(Ideal(Ring(ROOT), UNITS, 2 ** 19)), ((primes_over(Ring(ROOT), 2)[0][0], -57),))
        self.assertEqual([times for _, times in factors_of(multiple(Ring(ROOT), 100))], [6, 2, 2])

    def test_too_many(self):
        flat = Ring(PLAIN)
        for rows, bottom in ((UNITS, MILLION + 1), (((MILLION + 1, 0, 0), (0, 1, 0), (0, 0, 1)), 1), (UNITS, LONGEST),
                             (((101, 0, 0), (0, 101, 0), (0, 0, 101)), 1)):
            for call in (factors_of, lambda ideal: is_factors(ideal, ()), lambda ideal: is_factors(ideal, None)):
                self.refuses(TooMany, {"most": MILLION}, call, Ideal(flat, rows, bottom))
        self.assertEqual(len(factors_of(multiple(flat, 100))), 6)
        self.assertEqual(len(factors_of(Ideal(flat, UNITS, MILLION))), 6)

    def test_rings_that_are_refused(self):
        for call in (factors_of, lambda ideal: is_factors(ideal, ()), lambda ideal: is_factors(ideal, 7)):
            for form in (NOTHING, Form((0, 0, 1, 0)), Form((4, 0, -3, 1)), Form((0, 0, 0, LONGEST))):
                self.refuses(InvalidOperation, {}, call, Ideal(Ring(form), UNITS, MILLION + 1))
            for row in ((0, 1, 1, -25 * 10 ** 6), (2, 0, 0, LONGEST)):
                self.refuses(TooMany, {"most": 10 ** 8}, call, Ideal(Ring(Form(row)), UNITS, MILLION + 1))
            for ring in OTHERS:
                if ring.discriminant != 0:
                    self.refuses(Refused, {"reason": ("bar",)}, call, Ideal(ring, UNITS, MILLION + 1))
            for value in no_objects(Ideal):
                self.refuses(InvalidIdeal, {}, call, value)
        self.refuses(Refused, {"reason": ("bar",)}, factors_of, whole(Ring(Form((0, 1, 0, -25 * 10 ** 6)))))


class Listed(Refusals, unittest.TestCase):
    """[11.5], [11.6]"""

    def test_against_all_plain_rows(self):
        for ring in RINGS:
            for norm in list(range(1, 13)) + [16, 18]:
                found = ideals_of(ring, norm)
                self.assertIs(type(found), tuple)
                self.assertEqual([ideal.rows for ideal in found],
                                 sorted(rows for rows in all_plain_rows(norm) if is_closed(ring, rows)))
                for ideal in found:
                    self.assertEqual((ideal.ring, ideal.bottom, ideal.norm), (ring, 1, (norm, 1)))

    def test_great_norms(self):
        for norm in (24, 27, 36, 60):
            for ring in (Ring(PLAIN), Ring(Form((12, 0, 6, 3)))):
                self.assertEqual([ideal.rows for ideal in ideals_of(ring, norm)],
                                 sorted(rows for rows in all_plain_rows(norm) if is_closed(ring, rows)))
        for norm in (64, 72, 81, 96, 97, 100):
            for ring in (Ring(NOTHING), Ring(PLAIN), Ring(ROOT)):
                rows = [ideal.rows for ideal in ideals_of(ring, norm)]
                self.assertEqual(rows, sorted(rows))
                self.assertTrue(all(is_closed(ring, each) for each in rows))

    def test_numbers_of_ideals(self):
        for ring in GREATEST:
            for norm in range(1, 101):
                self.assertEqual(count_ideals(ring.form, norm), len(ideals_of(ring, norm)), (str(ring), norm))

    def test_great_numbers_of_ideals(self):
        for form in [ring.form for ring in GREATEST]:
            for powers in (((2, 19),), ((3, 12),), ((5, 8),), ((7, 7),), ((23, 4),), ((2, 6), (5, 6)), ((997, 2),),
                           ((2, 3), (3, 3), (23, 2)), ((9973, 1),), ((31, 4),), ((59, 3),), ((999983, 1),)):
                norm, told = 1, 1
                for prime, times in powers:
                    norm *= prime ** times
                    degrees = [1, 1, 1]
                    if prime <= 10000:
                        degrees = [degree for _, degree in primes_over(Ring(form), prime)]
                    elif form != PLAIN:
                        degrees = None
                    if degrees is None:
                        told = None
                        continue
                    told *= sum(1 for each in itertools.product(*[range(times // degree + 1) for degree in degrees])
                                if sum(one * other for one, other in zip(each, degrees)) == times)
                if told is not None:
                    self.assertEqual(count_ideals(form, norm), told, (form.coefficients, norm))
        self.assertEqual(count_ideals(PLAIN, MILLION), 28 * 28)

    def test_kinds_at_primes_above_10000(self):
        for prime in (10007, 100003, 999983):
            for form in (CUBIC, ROUND, ROOT, Form((0, 1, 1, 6))):
                a, b, c, d = form.coefficients
                many = sum(1 for x in range(prime) if (((a * x + b) * x + c) * x + d) % prime == 0) + (a == 0)
                self.assertEqual(count_ideals(form, prime), many)

    def test_wrong_norms(self):
        for value in (0, -1, LONGEST) + NO_INTEGERS:
            self.refuses_number(InvalidNumber, value, ideals_of, Ring(CUBIC), value)
            for form in (CUBIC, NOTHING, Form((0, 2, 1, 0)), Form((LONGEST, 0, 0, 1))):
                self.refuses_number(InvalidNumber, value, count_ideals, form, value)
        self.refuses_number(InvalidNumber, 101, ideals_of, Ring(CUBIC), 101)
        over = MILLION + 1
        self.refuses_number(InvalidNumber, over, count_ideals, CUBIC, over)

    def test_wrong_forms_and_rings(self):
        for value in no_objects(Ring):
            self.refuses(InvalidRing, {}, ideals_of, value, 2)
            self.refuses(InvalidRing, {}, ideals_of, value, 0)
            self.refuses(InvalidRing, {}, primes_over, value, 2)
            self.refuses(InvalidRing, {}, primes_over, value, 4)
        for value in no_objects(Form):
            self.refuses(InvalidForm, {}, count_ideals, value, 2)
            self.refuses(InvalidForm, {}, count_ideals, value, 0)
        for value in NO_PRIMES:
            for ring in (Ring(CUBIC), Ring(NOTHING)):
                self.refuses_number(InvalidNumber, value, primes_over, ring, value)
        for value in no_objects(Ideal):
            self.refuses(InvalidIdeal, {}, is_prime_ideal, value)

    def test_forms_that_are_refused(self):
        for form in (NOTHING, Form((0, 0, 1, 0)), Form((0, 0, 0, LONGEST))):
            self.refuses(InvalidOperation, {}, count_ideals, form, 2)
        for row in ((0, 1, 1, -25 * 10 ** 6), (0, 1, 1, 25 * 10 ** 6 + 1), (2, 0, 0, LONGEST)):
            self.refuses(TooMany, {"most": 10 ** 8}, count_ideals, Form(row), 2)
        for ring in OTHERS:
            if ring.discriminant != 0:
                self.assertIs(is_greatest(ring.form), False)
                self.refuses(Refused, {"reason": ("bar",)}, count_ideals, ring.form, 1)
        self.refuses(Refused, {"reason": ("bar",)}, count_ideals, Form((0, 1, 0, 25 * 10 ** 6)), 1)
        form = Form((0, 1, 1, -25 * 10 ** 6 + 1))
        self.assertEqual((form.discriminant, count_ideals(form, 1)), (10 ** 8 - 3, 1))


class NotTrue(unittest.TestCase):
    """[11.7]"""

    def test_as_many_as_roots(self):
        self.assertEqual((len(primes_over(Ring(CUBIC), 5)), len(roots_at(CUBIC, 5))), (2, 1))

    def test_an_ideal_that_is_no_product(self):
        within = Ring(Form((0, 2, 1, 0)))
        found = [ideal for ideal, _ in primes_over(within, 2)]
        products = [power(found[0], i) * power(found[1], j) for i in range(4) for j in range(4)]
        self.assertTrue(any(ideal not in products for norm in (2, 4, 8) for ideal in ideals_of(within, norm)))

    def test_a_prime_norm_that_cannot_be_undone(self):
        ideal = Ideal(Ring(Form((0, 2, 1, 0))), ((2, 0, 0), (0, 1, 0), (0, 0, 1)))
        self.assertEqual((ideal.norm, is_undone(ideal)), ((2, 1), False))

    def test_a_prime_ideal_with_a_square_as_its_norm(self):
        ideal = primes_over(Ring(CUBIC), 5)[1][0]
        self.assertEqual((ideal.norm, is_prime_ideal(ideal)), ((25, 1), True))

    def test_no_turn_between_two_ideals_of_one_norm(self):
        one, other = [ideal for ideal, _ in primes_over(Ring(CUBIC), 23)]
        self.assertEqual((one.norm, one == other, len(turns(CUBIC))), (other.norm, False, 1))


if __name__ == "__main__":
    unittest.main()
