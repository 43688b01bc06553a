import math
import unittest

from formrings.base import integers
from formrings.base.integers import common_divisor, factored, is_fundamental, is_prime, whole_root
from formrings.errors import InvalidNumber, InvalidOperation
from tests.helper import LONG, LONGEST, NO_INTEGERS, NO_TUPLES, Refusals, numbers


class Examples(unittest.TestCase):
    def test_constants(self):
        self.assertEqual(integers.MAX_PRIME, 10 ** 6)
        self.assertEqual(integers.MAX_FACTORED, 10 ** 12)
        self.assertEqual(integers.MAX_FUNDAMENTAL, 10 ** 9)

    def test_first_line(self):
        self.assertEqual(
            [common_divisor((12, -18, 0)), common_divisor(()), is_prime(91), factored(360), factored(1),
             whole_root(80, 4), whole_root(27, 3)],
            [6, 0, False, ((2, 3), (3, 2), (5, 1)), (), 2, 3])

    def test_fundamental_ones(self):
        self.assertEqual(
            [number for number in range(-24, 14) if is_fundamental(number)],
            [-24, -23, -20, -19, -15, -11, -8, -7, -4, -3, 1, 5, 8, 12, 13])


class CommonDivisor(Refusals, unittest.TestCase):
    """[1.1]"""

    def test_none_and_zeros(self):
        self.assertEqual([common_divisor(()), common_divisor((0,)), common_divisor((0,) * 7)], [0, 0, 0])

    def test_signs(self):
        self.assertEqual([common_divisor((-4,)), common_divisor((-4, -6)), common_divisor((0, -9, 6))], [4, 2, 3])

    def test_great_ones(self):
        self.assertEqual(common_divisor((LONGEST, -LONGEST)), LONGEST)
        self.assertEqual(common_divisor((10 ** 59, 15 ** 50)), 5 ** 50)

    def test_how_many(self):
        self.assertEqual(common_divisor((6,) * 999 + (9,)), 3)
        self.refuses(InvalidOperation, {}, common_divisor, (6,) * 1001)

    def test_random_ones_divide_and_are_greatest(self):
        source = numbers(1)
        for _ in range(200):
            row = tuple(source.randint(-60, 60) for _ in range(source.randint(1, 4)))
            wanted = max((n for n in range(1, 61) if all(m % n == 0 for m in row)), default=0)
            self.assertEqual(common_divisor(row), wanted if any(row) else 0)

    def test_wrong_ones(self):
        for value in NO_TUPLES:
            self.refuses(InvalidOperation, {}, common_divisor, value)
        for value in NO_INTEGERS:
            self.refuses(InvalidOperation, {}, common_divisor, (4, value))


class Primes(Refusals, unittest.TestCase):
    """[1.1]"""

    def test_all_small_ones(self):
        sieve = [number > 1 and all(number % n for n in range(2, number)) for number in range(400)]
        for number in range(400):
            self.assertIs(is_prime(number), sieve[number])

    def test_bounds(self):
        self.assertIs(is_prime(10 ** 6), False)
        self.assertIs(is_prime(999983), True)
        self.assertIs(is_prime(997 * 997), False)
        for number in (-1, -2, -7, 10 ** 6 + 1, 1000003):
            self.refuses_number(InvalidNumber, number, is_prime, number)

    def test_wrong_ones(self):
        for value in NO_INTEGERS:
            self.refuses_number(InvalidNumber, value, is_prime, value)


class Factored(Refusals, unittest.TestCase):
    """[1.1]"""

    def test_all_small_ones(self):
        for number in range(1, 500):
            pairs = factored(number)
            self.assertEqual(math.prod(prime ** times for prime, times in pairs), number)
            self.assertTrue(all(is_prime(prime) and times > 0 for prime, times in pairs))
            self.assertEqual(list(pairs), sorted(dict(pairs).items()))

    def test_bounds(self):
        self.assertEqual(factored(1), ())
        self.assertEqual(factored(10 ** 12), ((2, 12), (5, 12)))
        self.assertEqual(factored(999999999989), ((999999999989, 1),))
        self.assertEqual(factored(999983 ** 2), ((999983, 2),))
        self.assertEqual(factored(2 ** 39), ((2, 39),))
        for number in (0, -1, -6, 10 ** 12 + 1):
            self.refuses_number(InvalidNumber, number, factored, number)

    def test_wrong_ones(self):
        for value in NO_INTEGERS:
            self.refuses_number(InvalidNumber, value, factored, value)


class WholeRoot(Refusals, unittest.TestCase):
    """[1.1]"""

    def test_at_powers_and_beside_them(self):
        for exponent in range(2, 11):
            for root in (1, 2, 3, 10, 99, 999999):
                power = root ** exponent
                self.assertEqual(whole_root(power, exponent), root)
                self.assertEqual(whole_root(power - 1, exponent), root - 1)
                self.assertEqual(whole_root(power + 1, exponent), root)

    def test_small_ones(self):
        for exponent in (2, 3, 10):
            for number in range(0, 300):
                root = whole_root(number, exponent)
                self.assertTrue(root ** exponent <= number < (root + 1) ** exponent)

    def test_sixty_digits(self):
        self.assertEqual(whole_root((10 ** 30 - 1) ** 2, 2), 10 ** 30 - 1)
        self.assertEqual(whole_root((10 ** 30 - 1) ** 2 - 1, 2), 10 ** 30 - 2)
        self.assertEqual(whole_root(LONGEST, 2), 10 ** 30 - 1)
        self.assertEqual(whole_root(999999 ** 10, 10), 999999)
        self.assertEqual(whole_root(999999 ** 10 - 1, 10), 999998)
        self.assertEqual(whole_root(LONGEST, 10), 999999)

    def test_bounds(self):
        self.assertEqual([whole_root(0, 2), whole_root(0, 10), whole_root(1, 10)], [0, 0, 1])
        self.refuses_number(InvalidNumber, -1, whole_root, -1, 2)
        self.refuses_number(InvalidNumber, LONG, whole_root, LONG, 2)
        for exponent in (1, 0, -2, 11):
            self.refuses_number(InvalidNumber, exponent, whole_root, 9, exponent)

    def test_wrong_ones(self):
        for value in NO_INTEGERS:
            self.refuses_number(InvalidNumber, value, whole_root, value, 2)
            self.refuses_number(InvalidNumber, value, whole_root, 9, value)

    def test_the_first_wrong_one_is_told(self):
        self.refuses_number(InvalidNumber, -5, whole_root, -5, 11)
        self.refuses_number(InvalidNumber, "9", whole_root, "9", None)


class Fundamental(Refusals, unittest.TestCase):
    """[1.1]"""

    def test_by_the_words(self):
        def free(number):
            return all(number % (n * n) for n in range(2, 40))
        for number in range(-1000, 1001):
            wanted = (number % 4 == 1 and free(number)) or (
                number % 4 == 0 and number // 4 % 4 in (2, 3) and free(number // 4))
            self.assertIs(is_fundamental(number), wanted, number)

    def test_edges(self):
        self.assertEqual([is_fundamental(number) for number in (0, 1, -1, -3, -4, 4)],
                         [False, True, False, True, True, False])

    def test_bounds(self):
        self.assertIs(is_fundamental(10 ** 9), False)
        self.assertIs(is_fundamental(-10 ** 9), False)
        self.assertIs(is_fundamental(999999937), True)
        self.assertIs(is_fundamental(-4 * 249999991), 249999991 % 4 == 1)
        for number in (10 ** 9 + 1, -10 ** 9 - 1):
            self.refuses_number(InvalidNumber, number, is_fundamental, number)

    def test_wrong_ones(self):
        for value in NO_INTEGERS:
            self.refuses_number(InvalidNumber, value, is_fundamental, value)

    def test_what_is_not_true(self):
        """[1.5]: the sum of two that leave 1 by 4 leaves 2 by 4."""
        self.assertEqual([is_fundamental(5), is_fundamental(13), is_fundamental(18)], [True, True, False])


if __name__ == "__main__":
    unittest.main()
