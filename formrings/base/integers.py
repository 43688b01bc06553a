"""Divisors, primes, roots and fundamental integers."""

from math import gcd, isqrt

from formrings.base.checks import are_short_integers, check_between, is_short_integer
from formrings.base.polynomials import power_at
from formrings.errors import InvalidNumber, InvalidOperation

MAX_PRIME = 10 ** 6
MAX_FACTORED = 10 ** 12
MAX_FUNDAMENTAL = 10 ** 9
MOST_NUMBERS = 1000
ASKED = 501
GREATEST_PRIME = 10000


def shared_divisor(numbers):
    """The greatest common divisor of integers of any length; 0 if there is none above 0."""
    shared = 0
    for number in numbers:
        shared = gcd(shared, number)
    return shared


def fraction(top, bottom):
    """The pair of the top and the bottom, which is above 0, in lowest terms."""
    shared = gcd(top, bottom)
    return (top // shared, bottom // shared)


def cofactors(first, second):
    """Integers i and j for which i times the first number, and j times the second one, are 1 together.

    The numbers have no common divisor above 1.
    """
    left, right = (first, 1, 0), (second, 0, 1)
    while right[0] != 0:
        times = left[0] // right[0]
        left, right = right, tuple([one - times * other for one, other in zip(left, right)])
    sign, i, j = left
    return (sign * i, sign * j)


def common_divisor(numbers):
    """The greatest integer that divides all of the numbers; 0 if there are none, or all are 0."""
    if not isinstance(numbers, tuple) or len(numbers) > MOST_NUMBERS:
        raise InvalidOperation("the numbers are not a tuple of at most 1000")
    if not are_short_integers(numbers, len(numbers)):
        raise InvalidOperation("one of the numbers is no integer")
    return shared_divisor(numbers)


def is_prime(number):
    """Whether the number, from 0 to MAX_PRIME, is a prime."""
    check_between(number, 0, MAX_PRIME)
    if number < 2:
        return False
    for divisor in range(2, isqrt(number) + 1):
        if number % divisor == 0:
            return False
    return True


def check_prime(number):
    """Refuse what is no prime from 2 to GREATEST_PRIME."""
    check_between(number, 2, GREATEST_PRIME)
    if not is_prime(number):
        raise InvalidNumber(number)


def times_within(number, prime):
    """How often the prime divides a number other than 0, of any length."""
    times = 0
    left = number
    while left % prime == 0:
        left = left // prime
        times += 1
    return times


def is_great_prime(number):
    """Whether an odd number above 1, of at most MAX_FACTORED, and with no divisor up to 13, is a prime."""
    odd = number - 1
    halves = 0
    while odd % 2 == 0:
        odd = odd // 2
        halves += 1
    # Each number of this size that is no prime is told by one of these.
    for base in (2, 3, 5, 7, 11, 13):
        power = power_at(base, odd, number)
        squares = 1
        while squares < halves and power not in (1, number - 1):
            power = power * power % number
            squares += 1
        if power != number - 1 and (power != 1 or squares > 1):
            return False
    return True


def factored(number):
    """The ascending pairs of a prime that divides the number, and of how often it does."""
    check_between(number, 1, MAX_FACTORED)
    found = []
    left = number
    divisor = 2
    while divisor * divisor <= left:
        if divisor == ASKED and is_great_prime(left):
            # So there is no search for divisors up to its root.
            break
        if left % divisor == 0:
            times = times_within(left, divisor)
            found.append((divisor, times))
            left = left // raised(divisor, times)
        divisor = divisor + 2 if divisor > 2 else 3
    if left > 1:
        found.append((left, 1))
    return tuple(found)


def primes_twice(number):
    """The ascending list of the primes whose squares divide a number above 0."""
    found = []
    left = number
    divisor = 2
    while divisor * divisor * divisor <= left:
        if left % divisor == 0:
            times = times_within(left, divisor)
            left = left // raised(divisor, times)
            if times > 1:
                found.append(divisor)
        divisor = divisor + 2 if divisor > 2 else 3
    # What is left has at most two primes.
    side = isqrt(left)
    return found + [side] if side > 1 and side * side == left else found


def raised(base, exponent):
    """The power of an integer with an exponent of at least 0."""
    result = 1
    for _ in range(exponent):
        result = result * base
    return result


def whole_root(number, exponent):
    """The greatest integer whose power with the exponent is at most the number."""
    if not is_short_integer(number) or number < 0:
        raise InvalidNumber(number)
    check_between(exponent, 2, 10)
    low = 0
    high = 1 << (number.bit_length() // exponent + 1)
    while high - low > 1:
        middle = (low + high) // 2
        if raised(middle, exponent) <= number:
            low = middle
        else:
            high = middle
    return low


def is_square_free(number):
    """Whether the square of no prime divides an integer other than 0."""
    return len(primes_twice(abs(number))) == 0


def is_fundamental(number):
    """Whether the number is fundamental."""
    check_between(number, -MAX_FUNDAMENTAL, MAX_FUNDAMENTAL)
    if number % 4 == 1:
        return is_square_free(number)
    if number % 4 != 0:
        return False
    quarter = number // 4
    return quarter % 4 in (2, 3) and is_square_free(quarter)
