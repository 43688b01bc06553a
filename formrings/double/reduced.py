"""Reduced doubles, and products of classes, by coefficients of any length.

All doubles here are primitive, their discriminants are no squares, and the first coefficient is above 0 where the
discriminant is below 0.
"""

from math import gcd, isqrt

from formrings.base.integers import cofactors


def end_of(number, first, middle):
    """The double with this discriminant, and with these first two coefficients."""
    return (first, middle, (middle * middle - number) // (4 * first))


def low_below(number, first, middle):
    """The only reduced double of the class, for a discriminant below 0."""
    a, b = first, middle
    while True:
        b = b - (b + a - 1) // (2 * a) * (2 * a)
        c = (b * b - number) // (4 * a)
        if a < c:
            return (a, b, c)
        if a == c:
            return (a, abs(b), c)
        a, b = c, -b


def middle_above(number, root, first, middle):
    """The middle coefficient of the next double with this first one, on the way to a reduced one."""
    size = abs(first)
    # The greatest one that is at most the root, or, for great first coefficients, at most the size of the first one.
    top = max(size, root)
    return top - (top - middle) % (2 * size)


def is_reduced_above(root, first, middle):
    """Whether a double with a discriminant above 0 is reduced, where the root is that of the discriminant."""
    # The root is cut to an integer, and the discriminant no square: so "less than" becomes "at most" on one side.
    return 0 < middle <= root and root - middle < 2 * abs(first) <= root + middle


def next_above(number, root, double):
    """The next double of the class: the next one of the cycle, if this one is reduced."""
    _, middle, last = double
    return end_of(number, last, middle_above(number, root, last, -middle))


def low_above(number, first, middle):
    """Some reduced double of the class, for a discriminant above 0."""
    root = isqrt(number)
    double = end_of(number, first, middle)
    while not is_reduced_above(root, double[0], double[1]):
        double = next_above(number, root, double)
    return double


def cycle_of(number, start):
    """All reduced doubles of the class of a reduced one, for a discriminant above 0."""
    root = isqrt(number)
    found = [start]
    double = next_above(number, root, start)
    while double != start:
        found.append(double)
        double = next_above(number, root, double)
    return found


def low_with(number, first, middle):
    """Some reduced double of the class, told by its discriminant and its first two coefficients."""
    return low_below(number, first, middle) if number < 0 else low_above(number, first, middle)


def all_with(number, low):
    """All reduced doubles of the class of a reduced one."""
    return [low] if number < 0 else cycle_of(number, low)


def first_of(number):
    """Some reduced double of the first class."""
    return low_with(number, 1, number % 2)


def all_below(number):
    """The reduced doubles of a discriminant below 0."""
    found = []
    for middle in range(number % 2, isqrt(-number // 3) + 1, 2):
        ends = (middle * middle - number) // 4
        for first in range(max(middle, 1), isqrt(ends) + 1):
            if ends % first == 0 and gcd(gcd(first, middle), ends // first) == 1:
                found.append((first, middle, ends // first))
                if 0 < middle < first < ends // first:
                    found.append((first, -middle, ends // first))
    return found


def all_above(number):
    """The reduced doubles of a discriminant above 0."""
    root = isqrt(number)
    found = []
    for middle in range(2 - number % 2, root + 1, 2):
        ends = (number - middle * middle) // 4
        for size in range((root - middle) // 2 + 1, (root + middle) // 2 + 1):
            if ends % size == 0 and gcd(gcd(size, middle), ends // size) == 1:
                found.extend([(size, middle, -(ends // size)), (-size, middle, ends // size)])
    return found


def leasts_above(number):
    """The least doubles of all classes of a discriminant above 0."""
    found = []
    seen = {}
    for first, middle, last in sorted(all_above(number)):
        # The first one of each cycle in the ascending sequence is its least one.
        if (first, middle, last) not in seen:
            found.append((first, middle, last))
            for double in cycle_of(number, (first, middle, last)):
                seen[double] = True
    return found


def all_leasts(number):
    """The ascending list of the least doubles of all classes of a discriminant."""
    return sorted(all_below(number)) if number < 0 else leasts_above(number)


def product_of(number, one, other):
    """Some reduced double of the product of two classes."""
    first, middle, _ = one
    second, between, _ = other
    half = (middle + between) // 2
    # The shared divisor of both first coefficients is i first + j second; that of it and half is k shared + m half.
    shared = gcd(first, second)
    i, j = cofactors(first // shared, second // shared)
    whole = gcd(shared, half)
    k, m = cofactors(shared // whole, half // whole)
    top = k * (i * first * between + j * second * middle) + m * (middle * between + number) // 2
    return low_with(number, first * second // (whole * whole), top // whole)


def power_of_class(number, double, many):
    """Some reduced double of the class, taken so many times, at least 0."""
    result = first_of(number)
    square = double
    left = many
    while left > 0:
        if left & 1 == 1:
            result = product_of(number, result, square)
        left = left >> 1
        if left > 0:
            square = product_of(number, square, square)
    return result


def order_of_class(number, double):
    """How often the class of a reduced double must be taken for the product to be the first class."""
    first = {low: True for low in all_with(number, first_of(number))}
    order, left = 1, double
    while left not in first:
        left = product_of(number, left, double)
        order += 1
    return order
