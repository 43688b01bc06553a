"""Polynomials modulo primes: rows of coefficients, the highest power first."""


def power_at(base, exponent, prime):
    """The power of a residue with an exponent of at least 0."""
    result = 1
    square = base % prime
    left = exponent
    while left > 0:
        if left & 1 == 1:
            result = result * square % prime
        square = square * square % prime
        left = left >> 1
    return result


def inverse_at(number, prime):
    """The residue whose product with the number is 1, for a number that the prime does not divide."""
    return power_at(number, prime - 2, prime)


def first_one(row, prime):
    """The row, multiplied so that its first coefficient is 1, without the zeros that it begins with."""
    for at, number in enumerate(row):
        if number % prime != 0:
            back = inverse_at(number, prime)
            return [other * back % prime for other in row[at:]]
    return []


def rest_by(row, base, prime):
    """The rest of a polynomial by another one whose first coefficient is 1, with fewer coefficients than this one."""
    left = row
    many = len(base)
    while len(left) >= many:
        top = left[0]
        left = [(one - top * two) % prime for one, two in zip(left[1:many], base[1:])] + left[many:]
    return left


def quotient_by(row, base, prime):
    """A polynomial, divided by one whose first coefficient is 1, and that leaves no rest."""
    left = row
    many = len(base)
    found = []
    while len(left) >= many:
        found.append(left[0])
        left = [(one - found[-1] * two) % prime for one, two in zip(left[1:many], base[1:])] + left[many:]
    return found


def product_by_rest(first, second, base, prime):
    """The rest of the product of two polynomials."""
    found = [0] * (len(first) + len(second) - 1)
    for at, one in enumerate(first):
        for behind, two in enumerate(second):
            found[at + behind] = found[at + behind] + one * two
    return rest_by([number % prime for number in found], base, prime)


def power_by_rest(row, exponent, base, prime):
    """The rest of the power of a polynomial with an exponent above 1."""
    # From the highest digit on, so that the small row itself is what is multiplied by.
    result = row
    for at in range(exponent.bit_length() - 2, -1, -1):
        result = product_by_rest(result, result, base, prime)
        if (exponent >> at) & 1 == 1:
            result = product_by_rest(result, row, base, prime)
    return result


def shared_by(first, second, prime):
    """The greatest common divisor of two polynomials, with 1 as its first coefficient."""
    one, two = first, first_one(second, prime)
    while len(two) > 0:
        one, two = two, first_one(rest_by(one, two, prime), prime)
    return one


def less_number(row, number, prime):
    """The polynomial, less a residue."""
    return row[:-1] + [(row[-1] - number) % prime]


def split_roots(base, prime):
    """The roots of a product of unlike polynomials X - r, for an odd prime."""
    if len(base) == 1:
        return []
    if len(base) == 2:
        return [-base[1] % prime]
    for shift in range(prime):
        # Those r for which r + shift is the square of a residue other than 0.
        power = power_by_rest([1, shift], (prime - 1) // 2, base, prime)
        part = shared_by(base, less_number(power, 1, prime), prime)
        if 1 < len(part) < len(base):
            return split_roots(part, prime) + split_roots(quotient_by(base, part, prime), prime)
    return []


def roots_of(row, prime):
    """The list of the unlike roots of a polynomial that is not 0, for an odd prime."""
    base = first_one(row, prime)
    if len(base) <= 2:
        return split_roots(base, prime)
    # X to the power of the prime, less X, is the product of all X - r.
    power = power_by_rest([1, 0], prime, base, prime)
    less_one = power[:-2] + [(power[-2] - 1) % prime, power[-1]]
    return split_roots(shared_by(base, less_one, prime), prime)
