"""Ideals over primes, what undoes them, and the factors of their products, as they were told before."""

import itertools
import unittest

from formrings.above.steps import is_greatest
from formrings.errors import Refused
from formrings.form.forms import Form
from formrings.ideal.ideals import Ideal, inverse_of, is_undone, quotient, whole
from formrings.ideal.primes import factors_of, is_factors, primes_over
from formrings.prime.kinds import kind_at
from formrings.ring.rings import Ring
from tests.helper import numbers

PRIMES = (2, 3, 5, 7, 13)
# The form, the prime, the rows of an ideal over it, whether it is undone, and the rows and the bottom of what undoes it,
# or of the quotient of the ideal by itself.
OVER = (
    ((2, 4, 6, 8), 2, ((2, 0, 0), (0, 1, 0), (0, 0, 1)), False, ((2, 0, 0), (0, 1, 0), (0, 0, 1)), 2),
    ((2, 4, 6, 8), 3, ((3, 0, 0), (0, 3, 0), (0, 0, 3)), True, ((1, 0, 0), (0, 1, 0), (0, 0, 1)), 3),
    ((2, 4, 6, 8), 5, ((1, 0, 3), (0, 1, 4), (0, 0, 5)), True, ((1, 4, 4), (0, 5, 0), (0, 0, 5)), 5),
    ((2, 4, 6, 8), 7, ((1, 0, 3), (0, 1, 4), (0, 0, 7)), True, ((1, 4, 1), (0, 7, 0), (0, 0, 7)), 7),
    ((2, 4, 6, 8), 7, ((1, 4, 1), (0, 7, 0), (0, 0, 7)), True, ((1, 0, 3), (0, 1, 4), (0, 0, 7)), 7),
    ((2, 4, 6, 8), 13, ((1, 0, 3), (0, 1, 1), (0, 0, 13)), True, ((1, 8, 4), (0, 13, 0), (0, 0, 13)), 13),
    ((2, 4, 6, 8), 13, ((1, 8, 4), (0, 13, 0), (0, 0, 13)), True, ((1, 0, 3), (0, 1, 1), (0, 0, 13)), 13),
    ((1, 2, 4, 13), 2, ((1, 0, 1), (0, 1, 1), (0, 0, 2)), True, ((1, 1, 1), (0, 2, 0), (0, 0, 2)), 2),
    ((1, 2, 4, 13), 2, ((1, 1, 1), (0, 2, 0), (0, 0, 2)), True, ((1, 0, 1), (0, 1, 1), (0, 0, 2)), 2),
    ((1, 2, 4, 13), 3, ((3, 0, 0), (0, 3, 0), (0, 0, 3)), True, ((1, 0, 0), (0, 1, 0), (0, 0, 1)), 3),
    ((1, 2, 4, 13), 5, ((1, 0, 2), (0, 1, 2), (0, 0, 5)), True, ((1, 4, 1), (0, 5, 0), (0, 0, 5)), 5),
    ((1, 2, 4, 13), 5, ((1, 0, 3), (0, 1, 2), (0, 0, 5)), True, ((1, 3, 3), (0, 5, 0), (0, 0, 5)), 5),
    ((1, 2, 4, 13), 5, ((1, 0, 4), (0, 1, 3), (0, 0, 5)), True, ((5, 0, 0), (0, 1, 2), (0, 0, 5)), 5),
    ((1, 2, 4, 13), 7, ((1, 0, 3), (0, 1, 5), (0, 0, 7)), True, ((1, 4, 6), (0, 7, 0), (0, 0, 7)), 7),
    ((1, 2, 4, 13), 7, ((1, 4, 6), (0, 7, 0), (0, 0, 7)), True, ((1, 0, 3), (0, 1, 5), (0, 0, 7)), 7),
    ((1, 2, 4, 13), 13, ((1, 0, 10), (0, 1, 0), (0, 0, 13)), True, ((13, 0, 0), (0, 13, 0), (0, 0, 1)), 13),
    ((1, 2, 4, 13), 13, ((1, 8, 0), (0, 13, 0), (0, 0, 1)), True, ((1, 11, 10), (0, 13, 0), (0, 0, 13)), 13),
    ((1, 2, 4, 13), 13, ((1, 11, 0), (0, 13, 0), (0, 0, 1)), True, ((1, 8, 10), (0, 13, 0), (0, 0, 13)), 13),
    ((0, 6, 6, 0), 2, ((2, 0, 0), (0, 1, 0), (0, 0, 1)), False, ((2, 0, 0), (0, 1, 0), (0, 0, 1)), 2),
    ((0, 6, 6, 0), 3, ((3, 0, 0), (0, 1, 0), (0, 0, 1)), False, ((3, 0, 0), (0, 1, 0), (0, 0, 1)), 3),
    ((0, 6, 6, 0), 5, ((1, 0, 1), (0, 1, 0), (0, 0, 5)), True, ((5, 0, 0), (0, 5, 0), (0, 0, 1)), 5),
    ((0, 6, 6, 0), 5, ((1, 4, 0), (0, 5, 0), (0, 0, 1)), True, ((5, 0, 0), (0, 1, 0), (0, 0, 5)), 5),
    ((0, 6, 6, 0), 5, ((5, 0, 0), (0, 1, 0), (0, 0, 1)), True, ((1, 4, 1), (0, 5, 0), (0, 0, 5)), 5),
    ((0, 6, 6, 0), 7, ((1, 0, 6), (0, 1, 0), (0, 0, 7)), True, ((7, 0, 0), (0, 7, 0), (0, 0, 1)), 7),
    ((0, 6, 6, 0), 7, ((1, 1, 0), (0, 7, 0), (0, 0, 1)), True, ((7, 0, 0), (0, 1, 0), (0, 0, 7)), 7),
    ((0, 6, 6, 0), 7, ((7, 0, 0), (0, 1, 0), (0, 0, 1)), True, ((1, 1, 6), (0, 7, 0), (0, 0, 7)), 7),
    ((0, 6, 6, 0), 13, ((1, 0, 11), (0, 1, 0), (0, 0, 13)), True, ((13, 0, 0), (0, 13, 0), (0, 0, 1)), 13),
    ((0, 6, 6, 0), 13, ((1, 2, 0), (0, 13, 0), (0, 0, 1)), True, ((13, 0, 0), (0, 1, 0), (0, 0, 13)), 13),
    ((0, 6, 6, 0), 13, ((13, 0, 0), (0, 1, 0), (0, 0, 1)), True, ((1, 2, 11), (0, 13, 0), (0, 0, 13)), 13),
    ((4, 2, 1, 1), 2, ((1, 0, 1), (0, 1, 0), (0, 0, 2)), True, ((2, 0, 0), (0, 1, 1), (0, 0, 2)), 2),
    ((4, 2, 1, 1), 2, ((2, 0, 0), (0, 1, 0), (0, 0, 1)), False, ((2, 0, 0), (0, 1, 0), (0, 0, 2)), 2),
    ((4, 2, 1, 1), 3, ((3, 0, 0), (0, 3, 0), (0, 0, 3)), True, ((1, 0, 0), (0, 1, 0), (0, 0, 1)), 3),
    ((4, 2, 1, 1), 5, ((1, 0, 2), (0, 1, 1), (0, 0, 5)), True, ((1, 1, 2), (0, 5, 0), (0, 0, 5)), 5),
    ((4, 2, 1, 1), 5, ((1, 1, 2), (0, 5, 0), (0, 0, 5)), True, ((1, 0, 2), (0, 1, 1), (0, 0, 5)), 5),
    ((4, 2, 1, 1), 7, ((7, 0, 0), (0, 7, 0), (0, 0, 7)), True, ((1, 0, 0), (0, 1, 0), (0, 0, 1)), 7),
    ((4, 2, 1, 1), 13, ((1, 0, 10), (0, 1, 10), (0, 0, 13)), True, ((1, 12, 4), (0, 13, 0), (0, 0, 13)), 13),
    ((4, 2, 1, 1), 13, ((1, 12, 4), (0, 13, 0), (0, 0, 13)), True, ((1, 0, 10), (0, 1, 10), (0, 0, 13)), 13),
    ((13, 13, 0, 26), 2, ((1, 1, 0), (0, 2, 0), (0, 0, 1)), True, ((2, 0, 0), (0, 1, 1), (0, 0, 2)), 2),
    ((13, 13, 0, 26), 2, ((2, 0, 0), (0, 1, 0), (0, 0, 1)), True, ((2, 0, 0), (0, 2, 0), (0, 0, 1)), 2),
    ((13, 13, 0, 26), 3, ((3, 0, 0), (0, 3, 0), (0, 0, 3)), True, ((1, 0, 0), (0, 1, 0), (0, 0, 1)), 3),
    ((13, 13, 0, 26), 5, ((5, 0, 0), (0, 5, 0), (0, 0, 5)), True, ((1, 0, 0), (0, 1, 0), (0, 0, 1)), 5),
    ((13, 13, 0, 26), 7, ((1, 0, 1), (0, 1, 2), (0, 0, 7)), True, ((1, 5, 6), (0, 7, 0), (0, 0, 7)), 7),
    ((13, 13, 0, 26), 7, ((1, 5, 6), (0, 7, 0), (0, 0, 7)), True, ((1, 0, 1), (0, 1, 2), (0, 0, 7)), 7),
    ((13, 13, 0, 26), 13, ((13, 0, 0), (0, 1, 0), (0, 0, 1)), False, ((13, 0, 0), (0, 1, 0), (0, 0, 1)), 13),
)
# Greatest rings in which each kind comes at 2, 3, 5 and 7.
GREATEST = ((1, 2, 4, 13), (1, 1, 2, 1), (1, 2, -1, -1), (1, 0, 0, -2), (0, 1, 1, 0), (0, 1, -1, -1), (3, 2, 1, -4),
            (1, 3, 5, 14), (3, 5, 7, 6), (1, 0, 1, 1))


def told(ideal):
    return (ideal.rows, ideal.bottom)


def power(ideal, times):
    """The ideal, taken so many times, also below 0."""
    base = ideal if times > 0 else inverse_of(ideal)
    result = whole(ideal.ring)
    for _ in range(abs(times)):
        result = result * base
    return result


class Undone(unittest.TestCase):
    """[10.2] to [10.4], [11.4]"""

    def test_all_of_the_table_are_told(self):
        for row in sorted({line[0] for line in OVER}):
            for prime in PRIMES:
                rows = [ideal.rows for ideal, _ in primes_over(Ring(Form(row)), prime)]
                self.assertEqual(rows, [line[2] for line in OVER if line[:2] == (row, prime)])

    def test_what_undoes_them(self):
        for row, _, rows, undone, others, bottom in OVER:
            ring = Ring(Form(row))
            ideal = Ideal(ring, rows)
            self.assertIs(is_undone(ideal), undone)
            if undone:
                back = inverse_of(ideal)
                self.assertEqual(told(back), (others, bottom))
                self.assertEqual(ideal * back, whole(ring))
                self.assertEqual(told(inverse_of(back)), (rows, 1))
                self.assertEqual(quotient(ideal, ideal), whole(ring))
            else:
                with self.assertRaises(Refused) as caught:
                    inverse_of(ideal)
                self.assertEqual(caught.exception.reason, ("undone",))
                self.assertEqual(told(quotient(ideal, ideal)), (others, bottom))

    def test_quotients_by_the_words(self):
        for (row, _, rows, _, _, _), (other, _, others, _, _, _) in itertools.product(OVER, repeat=2):
            if row != other:
                continue
            ring = Ring(Form(row))
            one, two = Ideal(ring, rows), Ideal(ring, others)
            found = quotient(one, two)
            self.assertEqual(found * two + one, one)
            # What is twice or three times greater has some element whose products are not all in the first one.
            for prime in (2, 3):
                for base in found.rows:
                    wider = found + Ideal(ring, found.rows, found.bottom * prime)
                    self.assertNotEqual(wider * two + one, one)
                    self.assertIn(ring.element(base, found.bottom), found)

    def test_products_and_quotients_of_them(self):
        for row, _, rows, undone, _, _ in OVER:
            ring = Ring(Form(row))
            ideal = Ideal(ring, rows)
            square = ideal * ideal
            self.assertIs(is_undone(square), undone)
            self.assertIs(is_undone(ideal.stretched(ring.element((1, 2, 3), 5))), undone)
            if undone:
                self.assertEqual(quotient(square, ideal), ideal)
                self.assertEqual(inverse_of(square), inverse_of(ideal) * inverse_of(ideal))
                self.assertEqual(inverse_of(square).norm, square.norm[::-1])


class Factors(unittest.TestCase):
    """[11.5]"""

    def test_kinds(self):
        found = set()
        for row in GREATEST:
            self.assertIs(is_greatest(Form(row)), True, row)
            found |= {(prime, kind_at(Form(row), prime)) for prime in (2, 3, 5, 7)}
        kinds = ("three", "pair", "none", "twice", "thrice")
        self.assertEqual(found, set(itertools.product((2, 3, 5, 7), kinds)))

    def test_the_first_three(self):
        ring = Ring(Form((1, 2, 4, 13)))
        first, second, third = [ideal for prime in (2, 3, 5, 7) for ideal, _ in primes_over(ring, prime)][:3]
        product = first * second * third
        self.assertEqual(told(product), (((6, 0, 0), (0, 6, 0), (0, 0, 6)), 1))
        pairs = factors_of(product)
        self.assertEqual([(told(ideal), times) for ideal, times in pairs],
                         [((((1, 0, 1), (0, 1, 1), (0, 0, 2)), 1), 1), ((((1, 1, 1), (0, 2, 0), (0, 0, 2)), 1), 1),
                          ((((3, 0, 0), (0, 3, 0), (0, 0, 3)), 1), 1)])
        self.assertIs(is_factors(product, pairs), True)
        self.assertIs(is_factors(product, pairs[::-1]), True)
        self.assertIs(is_factors(product, pairs[1:]), False)

    def test_drawn_products(self):
        source = numbers(211)
        many = 0
        for row in GREATEST:
            ring = Ring(Form(row))
            over = [ideal for prime in (2, 3, 5, 7) for ideal, _ in primes_over(ring, prime)]
            for _ in range(25):
                times = [source.choice((0, 0, 0, 1, 1, 2, 3, -1, -1, -2, -3)) for _ in over]
                product = whole(ring)
                for ideal, number in zip(over, times):
                    product = product * power(ideal, number)
                size = product.rows[0][0] * product.rows[1][1] * product.rows[2][2]
                if size > 10 ** 6 or product.bottom > 10 ** 6:
                    continue
                many += 1
                pairs = factors_of(product)
                self.assertEqual(pairs, tuple((ideal, number) for ideal, number in zip(over, times) if number != 0))
                self.assertIs(is_factors(product, pairs), True)
                self.assertIs(is_factors(product, pairs[::-1]), True)
                self.assertIs(is_factors(product, pairs + pairs[:1]), pairs == ())
                if pairs:
                    ideal, number = pairs[0]
                    self.assertIs(is_factors(product, ((ideal, number + 1),) + pairs[1:]), False)
                    self.assertIs(is_factors(product, ((ideal, -number),) + pairs[1:]), False)
        self.assertGreater(many, 100)

    def test_one_prime_ideal_many_times(self):
        for row in GREATEST:
            ring = Ring(Form(row))
            for prime in (2, 3, 5, 7):
                for ideal, degree in primes_over(ring, prime):
                    for times in (1, 2, 3, -1, -2, -3, 6, -6):
                        if prime ** (degree * abs(times)) <= 1000:
                            product = power(ideal, times)
                            self.assertEqual(factors_of(product), ((ideal, times),))


if __name__ == "__main__":
    unittest.main()
