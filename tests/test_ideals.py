import fractions
import itertools
import unittest

from formrings.above.steps import bar
from formrings.errors import InvalidElement, InvalidIdeal, InvalidNumber, InvalidRing, Refused
from formrings.form.forms import Form
from formrings.ideal import ideals
from formrings.ideal.ideals import Ideal, dual, inverse_of, is_undone, made_by, quotient, whole
from formrings.ring.rings import Ring
from tests.helper import (
    CUBIC, LONG, LONGEST, NO_INTEGERS, NO_TUPLES, NOTHING, OBJECTS, PLAIN, ROOT, ROUND, Refusals, nested, no_objects,
    numbers)

UNITS = ((1, 0, 0), (0, 1, 0), (0, 0, 1))
# Greatest rings, others with a content of 1, others with a content above 1, and some with the discriminant 0.
GREATEST = [Ring(form) for form in (CUBIC, ROUND, PLAIN, ROOT, Form((0, 1, 1, 6)))]
PRIMITIVE = [Ring(Form(row)) for row in ((4, 2, 1, 1), (0, 2, 1, 0), (1, 0, 0, -10), (9, 3, 1, 1), (1, 0, 0, 4))]
THICK = [Ring(Form(row)) for row in ((0, 2, 2, 0), (2, 2, 0, 2), (3, 3, 6, 3), (12, 0, 6, 3))]
FLAT = [Ring(form) for form in (NOTHING, Form((0, 0, 1, 0)), Form((0, 0, 0, 2)), Form((4, 0, -3, 1)))]
RINGS = GREATEST + PRIMITIVE + THICK + FLAT
WITH_DUALS = GREATEST + PRIMITIVE + THICK
BELOW = Ring(Form((0, 2, 2, 0)))
OVER = Ideal(BELOW, ((2, 0, 0), (0, 1, 0), (0, 0, 1)), 2)


def basis(ideal):
    return [ideal.ring.element(row, ideal.bottom) for row in ideal.rows]


def ratio(pair):
    return fractions.Fraction(*pair)


def coordinates(rows, bottom, element):
    """What the rows over the bottom are multiplied by in the element."""
    left = [fractions.Fraction(number * bottom, element.bottom) for number in element.entries]
    matrix = [[fractions.Fraction(row[at]) for row in rows] + [left[at]] for at in range(3)]
    for at in range(3):
        pivot = next(k for k in range(at, 3) if matrix[k][at])
        matrix[at], matrix[pivot] = matrix[pivot], matrix[at]
        matrix[at] = [number / matrix[at][at] for number in matrix[at]]
        for other in range(3):
            if other != at:
                matrix[other] = [one - matrix[other][at] * two for one, two in zip(matrix[other], matrix[at])]
    return [row[3] for row in matrix]


def is_in(rows, bottom, element):
    return all(number.denominator == 1 for number in coordinates(rows, bottom, element))


def is_within(ideal, other):
    return all(is_in(other.rows, other.bottom, element) for element in basis(ideal))


def size_of(rows):
    (a, b, c), (d, e, f), (g, h, i) = rows
    return abs(a * (e * i - f * h) - b * (d * i - f * g) + c * (d * h - e * g))


def is_closed(ring, rows, bottom=1):
    for row in rows:
        element = ring.element(row, bottom)
        if not is_in(rows, bottom, element * ring.w()) or not is_in(rows, bottom, element * ring.t()):
            return False
    return True


def some_elements(ring, seed, many, size=4):
    """Elements with a norm other than 0."""
    source = numbers(seed)
    found = []
    while len(found) < many:
        element = ring.element(tuple(source.randint(-size, size) for _ in range(3)), source.choice((1, 1, 2, 3)))
        if element.norm[0] != 0:
            found.append(element)
    return found


def some_ideals(ring, seed, many=4):
    found = [whole(ring)]
    for at in range(many):
        one, two = some_elements(ring, 1000 * seed + at, 2)
        number = ring.one().scaled(2 + at, 1 + at % 3)
        found.append(made_by(ring, (one, two, number)[:2 + at % 2] if at else (one,)))
    return found


def barred_ideal(ring):
    """An ideal with a prime index, at the prime of the bar of a ring that is not greatest."""
    told = bar(ring.form)
    prime = told[1]
    a, b, c, _ = ring.form.coefficients
    if told[0] == "content":
        return Ideal(ring, ((prime, 0, 0), (0, 1, 0), (0, 0, 1)))
    x, y = told[2]
    if y == 0:
        return Ideal(ring, ((prime, 0, 0), (-b, 1, 0), (0, 0, 1)))
    return Ideal(ring, ((prime, 0, 0), (a * x, 1, 0), (a * x * x + b * x + c, 0, 1)))


class Examples(unittest.TestCase):
    def test_constant(self):
        self.assertEqual(ideals.MAX_ELEMENTS, 16)

    def test_lines(self):
        ring = Ring(ROOT)
        first, second = made_by(ring, (ring.w(),)), made_by(ring, (ring.t(),))
        self.assertEqual(
            [str(whole(ring)), first.rows, second.rows, second.norm, first * first == second, first + second == first],
            ['ideal of norm 1/1', ((2, 0, 0), (0, 1, 0), (0, 0, 1)), ((2, 0, 0), (0, 2, 0), (0, 0, 1)), (4, 1), True,
             True])
        back = inverse_of(first)
        self.assertEqual(
            [back.rows, back.bottom, back.norm, first * back == whole(ring), quotient(second, first) == first,
             dual(whole(ring)).norm, ring.t() in first, ring.one() in first],
            [((2, 0, 0), (0, 2, 0), (0, 0, 1)), 2, (1, 2), True, True, (1, 108), True, False])
        top = dual(whole(BELOW))
        self.assertEqual([str(OVER), OVER * OVER == OVER, is_undone(OVER), is_undone(top),
                          quotient(top, top) == whole(BELOW)],
                         ['ideal of norm 1/4', True, False, False, True])
        with self.assertRaises(Refused) as caught:
            inverse_of(OVER)
        self.assertEqual(caught.exception.reason, ('undone',))


class Rows(Refusals, unittest.TestCase):
    """[10.1]"""

    def test_lattices_that_are_ideals_and_others(self):
        source = numbers(131)
        kinds = {True: 0, False: 0}
        for ring in RINGS:
            for _ in range(60):
                i, j, k = source.choice((1, 2, 3, 4)), source.choice((1, 2, 3)), source.choice((1, 2))
                rows = ((i, source.randint(0, 2), source.randint(0, 2)), (0, j, source.randint(0, 1)), (0, 0, k))
                if source.random() < 0.5:
                    rows = (rows[2], rows[0], rows[1])
                bottom = source.choice((1, 2, 6))
                right = is_closed(ring, rows)
                kinds[right] += 1
                if not right:
                    self.refuses(InvalidIdeal, {}, Ideal, ring, rows, bottom)
                    continue
                ideal = Ideal(ring, rows, bottom)
                self.assertEqual(ratio(ideal.norm), fractions.Fraction(size_of(rows), bottom ** 3))
                for row in rows:
                    self.assertIn(ring.element(row, bottom), ideal)
        self.assertGreater(min(kinds.values()), 60)

    def test_plain_rows_in_lowest_terms(self):
        for ring in RINGS:
            for ideal in some_ideals(ring, 2):
                (a, b, c), (zero, d, e), (nought, none, f) = ideal.rows
                self.assertEqual((zero, nought, none), (0, 0, 0))
                self.assertTrue(min(a, d, f, ideal.bottom) > 0 and 0 <= b < d and 0 <= c < f and 0 <= e < f)
                shared = [n for n in range(2, ideal.bottom + 1)
                          if ideal.bottom % n == 0 and all(number % n == 0 for row in ideal.rows for number in row)]
                self.assertEqual(shared, [])
                self.assertEqual(ratio(ideal.norm), fractions.Fraction(a * d * f, ideal.bottom ** 3))
                self.assertEqual(str(ideal), f"ideal of norm {ideal.norm[0]}/{ideal.norm[1]}")
                self.assertTrue(is_closed(ring, ideal.rows))

    def test_other_rows_and_bottoms_tell_the_same(self):
        for ring in RINGS:
            for ideal in some_ideals(ring, 3):
                one, two, three = ideal.rows
                moved = (tuple(x + 2 * y for x, y in zip(one, two)), tuple(-y - 3 * z for y, z in zip(two, three)), three)
                for rows in (ideal.rows, moved, (three, one, two), moved[::-1]):
                    for times in (1, 5, 12):
                        great = tuple(tuple(times * number for number in row) for row in rows)
                        found = Ideal(ring, great, ideal.bottom * times)
                        self.assertIs(found == ideal, True)
                        self.assertIs(found != ideal, False)
                        self.assertEqual((found.rows, found.bottom, found.norm), (ideal.rows, ideal.bottom, ideal.norm))
                self.assertEqual(Ideal(ring, rows), Ideal(ring, rows, 1))

    def test_equality(self):
        ring = Ring(CUBIC)
        ideal = whole(ring)
        self.assertEqual(ideal, whole(Ring(Form((1, 1, 2, 1)))))
        for value in (whole(Ring(-CUBIC)), whole(Ring(ROUND)), ring, CUBIC, None, True, 1, UNITS, "ideal of norm 1/1",
                      Ideal(ring, UNITS, 2), made_by(ring, (ring.one().scaled(2),)), ring.one(), (), [], {}):
            self.assertIs(ideal == value, False)
            self.assertIs(ideal != value, True)
            self.assertIs(value == ideal, False)

    def test_it_never_changes(self):
        ideal = whole(Ring(CUBIC))
        self.keeps(ideal, ("ring", "rows", "bottom", "norm"))
        for name in ("__mul__", "__add__", "stretched", "__contains__", "__eq__", "__str__"):
            self.assertIn(name, vars(Ideal))
        self.is_not_iterated(ideal)
        self.assertEqual(ideal.ring, Ring(CUBIC))

    def test_great_integers(self):
        ring = Ring(CUBIC)
        great = Ideal(ring, ((LONGEST, 0, 0), (0, LONGEST, 0), (0, 0, LONGEST)), LONGEST - 1)
        self.assertEqual((great.rows[0][0], great.bottom), (LONGEST, LONGEST - 1))
        self.assertEqual((great * great).norm, (LONGEST ** 6, (LONGEST - 1) ** 6))
        self.assertEqual(inverse_of(great * great) * great * great, whole(ring))
        self.assertEqual(great.stretched(ring.one().scaled(LONGEST - 1, LONGEST)), whole(ring))


class Reckoning(unittest.TestCase):
    """[10.2], [10.3]"""

    def test_products(self):
        for ring in RINGS:
            for one, other in itertools.combinations_with_replacement(some_ideals(ring, 4), 2):
                found = one * other
                rows = [(x * y) for x in basis(one) for y in basis(other)]
                self.assertTrue(all(is_in(found.rows, found.bottom, each) for each in rows))
                # The product is the sum of the stretched lattices of its generators.
                told = made_by(ring, tuple(rows))
                self.assertEqual(found, told)
                self.assertEqual(found, other * one)
                self.assertTrue(is_closed(ring, found.rows))

    def test_products_are_spanned(self):
        for ring in RINGS:
            for one, other in itertools.combinations(some_ideals(ring, 5, 2), 2):
                found = one * other
                bottom = one.bottom * other.bottom
                wide = [tuple(n * bottom // each.bottom for n in each.entries)
                        for each in (x * y for x in basis(one) for y in basis(other))]
                sizes = [size_of(rows) for rows in itertools.combinations(wide, 3)]
                shared = 0
                for size in sizes:
                    while size:
                        shared, size = size, shared % size
                self.assertEqual(ratio(found.norm), fractions.Fraction(shared, bottom ** 3))

    def test_sums(self):
        for ring in RINGS:
            for one, other in itertools.combinations_with_replacement(some_ideals(ring, 6), 2):
                found = one + other
                self.assertEqual(found, made_by(ring, tuple(basis(one) + basis(other))))
                self.assertEqual(found, other + one)
                self.assertTrue(is_within(one, found) and is_within(other, found))
                self.assertEqual(one + one, one)

    def test_brackets(self):
        for ring in RINGS:
            one, two, three = some_ideals(ring, 7)[1:4]
            self.assertEqual((one * two) * three, one * (two * three))
            self.assertEqual((one + two) * three, one * three + two * three)
            self.assertEqual(one * whole(ring), one)

    def test_quotients(self):
        for ring in RINGS:
            for one, other in itertools.product(some_ideals(ring, 8, 3), repeat=2):
                found = quotient(one, other)
                self.assertTrue(is_closed(ring, found.rows))
                self.assertTrue(is_within(found * other, one))
                # If more were led into it, then something whose multiple by a small prime is in the quotient.
                for prime in (2, 3):
                    for times in itertools.product(range(prime), repeat=3):
                        if any(times):
                            first, second, third = basis(found)
                            more = first.scaled(times[0], prime) + second.scaled(times[1], prime)
                            more = more + third.scaled(times[2], prime)
                            into = all(is_in(one.rows, one.bottom, more * each) for each in basis(other))
                            self.assertFalse(into)
                self.assertEqual(quotient(one, whole(ring)), one)

    def test_stretched_ones(self):
        for ring in RINGS:
            for ideal in some_ideals(ring, 9, 2):
                for element in some_elements(ring, 10, 4):
                    found = ideal.stretched(element)
                    self.assertEqual(found, made_by(ring, tuple(element * each for each in basis(ideal))))
                    self.assertEqual(ratio(found.norm), ratio(ideal.norm) * abs(ratio(element.norm)))
                    self.assertEqual(found.stretched(element.inverse()), ideal)
                    self.assertEqual(found, ideal * made_by(ring, (element,)))

    def test_made_by(self):
        for ring in RINGS:
            one, two, three = some_elements(ring, 11, 3)
            found = made_by(ring, (one, two, three))
            self.assertEqual(found, made_by(ring, (one,)) + made_by(ring, (two,)) + made_by(ring, (three,)))
            self.assertEqual(made_by(ring, (one,)), whole(ring).stretched(one))
            self.assertEqual(made_by(ring, (one,) * 16), made_by(ring, (one, one - one)))
            self.assertEqual(made_by(ring, (ring.one(),)), whole(ring))
        flat = Ring(PLAIN)
        self.assertEqual(made_by(flat, (flat.w(), flat.t(), flat.one() - flat.w() - flat.t())), whole(flat))

    def test_norms_of_products_with_undone_ones(self):
        for ring in RINGS:
            found = some_ideals(ring, 12)
            for one, other in itertools.product(found, repeat=2):
                if is_undone(one):
                    self.assertEqual(ratio((one * other).norm), ratio(one.norm) * ratio(other.norm))
                    if is_undone(other):
                        self.assertIs(is_undone(one * other), True)


class Undone(Refusals, unittest.TestCase):
    """[10.3], [10.4], [10.6]"""

    def all_ideals(self, ring):
        found = some_ideals(ring, 13, 5)
        for rows in itertools.product(range(1, 4), range(1, 3), range(1, 3), range(2), range(2), range(2)):
            i, j, k, x, y, z = rows
            rows = ((i, x % j, y % k), (0, j, z % k), (0, 0, k))
            if is_closed(ring, rows):
                found.append(Ideal(ring, rows))
        return found

    def test_by_the_words(self):
        for ring in RINGS:
            for ideal in self.all_ideals(ring):
                told = ideal * quotient(whole(ring), ideal) == whole(ring)
                self.assertIs(is_undone(ideal), told)
                own = quotient(ideal, ideal)
                self.assertTrue(is_within(whole(ring), own))
                if told:
                    self.assertEqual(own, whole(ring))
                    back = inverse_of(ideal)
                    self.assertEqual(back * ideal, whole(ring))
                    self.assertEqual(back, quotient(whole(ring), ideal))
                    self.assertEqual(inverse_of(back), ideal)
                    self.assertEqual(ratio(back.norm) * ratio(ideal.norm), 1)
                else:
                    self.refuses(Refused, {"reason": ("undone",)}, inverse_of, ideal)
                if ring.form.content == 1:
                    self.assertEqual(told, own == whole(ring))

    def test_greatest_rings_and_others(self):
        for ring in GREATEST:
            self.assertTrue(all(is_undone(ideal) for ideal in self.all_ideals(ring)))
        for ring in PRIMITIVE + THICK:
            self.assertIs(is_undone(barred_ideal(ring)), False)


class Duals(Refusals, unittest.TestCase):
    """[10.5]"""

    def test_traces_and_norms(self):
        for ring in WITH_DUALS:
            for ideal in some_ideals(ring, 14):
                found = dual(ideal)
                for one, other in itertools.product(basis(ideal), basis(found)):
                    self.assertEqual((one * other).trace[1], 1)
                self.assertEqual(ratio(found.norm) * ratio(ideal.norm), fractions.Fraction(1, abs(ring.discriminant)))
                self.assertEqual(dual(found), ideal)
                self.assertEqual(found, quotient(dual(whole(ring)), ideal))
                self.assertTrue(is_closed(ring, found.rows))

    def test_the_dual_of_the_ring(self):
        for ring in WITH_DUALS:
            top = dual(whole(ring))
            self.assertIs(is_undone(top), ring.form.content == 1)
            self.assertEqual(quotient(top, top), whole(ring))

    def test_the_discriminant_0(self):
        for ring in FLAT:
            for ideal in some_ideals(ring, 15):
                self.refuses(Refused, {"reason": ("discriminant",)}, dual, ideal)


class Members(unittest.TestCase):
    """[10.1], [0.2]"""

    def test_against_coordinates(self):
        source = numbers(132)
        seen = {True: 0, False: 0}
        for ring in RINGS:
            for ideal in some_ideals(ring, 16):
                for _ in range(25):
                    times = [source.randint(-3, 3) for _ in range(3)]
                    under = source.choice((1, 1, 2, 3))
                    first, second, third = basis(ideal)
                    element = first.scaled(times[0], under) + second.scaled(times[1]) + third.scaled(times[2])
                    told = is_in(ideal.rows, ideal.bottom, element)
                    self.assertIs(element in ideal, told)
                    self.assertIs(element not in ideal, not told)
                    seen[told] += 1
                self.assertIn(ring.one() - ring.one(), ideal)
        self.assertGreater(min(seen.values()), 100)

    def test_values_that_are_no_members(self):
        ring = Ring(CUBIC)
        ideal = Ideal(ring, UNITS, 6)
        for value in NO_INTEGERS + NO_TUPLES + ((1, 0, 0), nested(8), ideal, Ring(-CUBIC).one(), Ring(ROUND).w()):
            if value is not OBJECTS[3]:
                self.assertIs(value in ideal, False, value)
        self.assertIs(Ring(Form((1, 1, 2, 1))).one() in ideal, True)
        self.assertIs(ring.element((5, 1, 2), 6) in ideal, True)
        self.assertIs(ring.element((5, 1, 2), 12) in ideal, False)
        self.assertIs(ring.element((5, 1, 2), 7) in ideal, False)


class Wrong(Refusals, unittest.TestCase):
    """[0.4], [0.7], and the errors of the stage"""

    def test_wrong_rings(self):
        for value in no_objects(Ring):
            self.refuses(InvalidRing, {}, Ideal, value, UNITS)
            self.refuses(InvalidRing, {}, Ideal, value, None, 0)
            self.refuses(InvalidRing, {}, whole, value)
            self.refuses(InvalidRing, {}, made_by, value, (Ring(CUBIC).one(),))
            self.refuses(InvalidRing, {}, made_by, value, None)

    def test_wrong_rows(self):
        ring = Ring(CUBIC)
        row = (1, 0, 0)
        wrong = [(), UNITS[:2], UNITS + UNITS[:1], list(UNITS), (list(row),) + UNITS[1:], ((1, 0), (0, 1), (1, 1)),
                 ((1, 0, 0, 0),) * 3, (None,) + UNITS[1:], ("100", "010", "001"), (UNITS, UNITS, UNITS), {1: UNITS},
                 nested(8), ((1, 0, 0), (0, 1, 0), None), 3 * ((1, 0),)]
        for value in NO_INTEGERS:
            wrong.append(((1, 0, 0), (0, value, 0), (0, 0, 1)))
            wrong.append(((1, 0, value), (0, 1, 0), (0, 0, 1)))
        for value in wrong + list(NO_TUPLES):
            self.refuses(InvalidIdeal, {}, Ideal, ring, value)
            self.refuses(InvalidIdeal, {}, Ideal, ring, value, 0)

    def test_wrong_bottoms(self):
        ring = Ring(CUBIC)
        for value in (0, -1, -LONGEST) + NO_INTEGERS:
            self.refuses_number(InvalidNumber, value, Ideal, ring, UNITS, value)
            self.refuses_number(InvalidNumber, value, Ideal, ring, ((0, 0, 0),) * 3, value)
            self.refuses_number(InvalidNumber, value, Ideal, ring, ((1, 0, 0), (0, 2, 0), (0, 0, 3)), value)
        self.assertEqual(Ideal(ring, UNITS, LONGEST).bottom, LONGEST)

    def test_no_ideals_behind_then(self):
        for ring in RINGS:
            for rows in (((0, 0, 0),) * 3, ((1, 0, 0), (0, 1, 0), (1, 1, 0)), ((0, 0, 0), (0, 1, 0), (0, 0, 1))):
                self.refuses(InvalidIdeal, {}, Ideal, ring, rows)
                self.refuses(InvalidIdeal, {}, Ideal, ring, rows, 7)
        self.refuses(InvalidIdeal, {}, Ideal, Ring(CUBIC), ((1, 0, 0), (0, 2, 0), (0, 0, 1)))
        self.refuses(InvalidIdeal, {}, Ideal, Ring(CUBIC), ((1, 0, 0), (0, 1, 0), (0, 0, 2)))

    def test_wrong_ideals(self):
        good, far = whole(Ring(CUBIC)), whole(Ring(ROUND))
        for value in no_objects(Ideal):
            for call in (dual, is_undone, inverse_of):
                self.refuses(InvalidIdeal, {}, call, value)
            self.refuses(InvalidIdeal, {}, quotient, value, good)
            self.refuses(InvalidIdeal, {}, quotient, good, value)
            self.refuses(InvalidIdeal, {}, quotient, value, None)
        for one, other in ((good, far), (far, good), (good, whole(Ring(-CUBIC)))):
            self.refuses(InvalidIdeal, {}, quotient, one, other)
            self.refuses(InvalidIdeal, {}, lambda x, y: x * y, one, other)
            self.refuses(InvalidIdeal, {}, lambda x, y: x + y, one, other)

    def test_operands_of_another_kind(self):
        good = whole(Ring(CUBIC))
        for value in no_objects(Ideal):
            for call in (lambda x, y: x * y, lambda x, y: x + y, lambda x, y: y * x, lambda x, y: y + x):
                with self.assertRaises(TypeError):
                    call(good, value)
        for call in (lambda x: -x, lambda x: x - x, lambda x: x ** 2, lambda x: x < x):
            with self.assertRaises(TypeError):
                call(good)

    def test_wrong_elements(self):
        ring = Ring(CUBIC)
        for value in NO_INTEGERS + NO_TUPLES + (Ring(-CUBIC).one(), Ring(ROUND).w(), ring.one() - ring.one(), whole(ring)):
            if value is not OBJECTS[3]:
                self.refuses(InvalidElement, {}, whole(ring).stretched, value)
                if not (isinstance(value, type(ring.one())) and value.ring == ring):
                    self.refuses(InvalidElement, {}, made_by, ring, (ring.one(), value))
                    self.refuses(InvalidElement, {}, made_by, ring, (value, ring.one()))
        flat = Ring(PLAIN)
        self.refuses(InvalidElement, {}, whole(flat).stretched, flat.w())

    def test_wrong_tuples(self):
        ring = Ring(CUBIC)
        one = ring.one()
        for value in NO_TUPLES + ((), [one], (one,) * 17, {one.bottom: one}, one, ((one,),), (None,), nested(8)):
            self.refuses(InvalidElement, {}, made_by, ring, value)
        self.assertEqual(made_by(ring, (one,) * 16), whole(ring))

    def test_too_few(self):
        flat = Ring(PLAIN)
        for members in ((flat.w(),), (flat.w(), flat.t()), (flat.w() - flat.w(),), (flat.t(),) * 16):
            self.refuses(Refused, {"reason": ("rank",)}, made_by, flat, members)
        for ring in FLAT:
            self.refuses(Refused, {"reason": ("rank",)}, made_by, ring, (ring.w() - ring.w(),))
        self.refuses(Refused, {"reason": ("rank",)}, made_by, Ring(NOTHING), (Ring(NOTHING).w(), Ring(NOTHING).t()))
        self.refuses(InvalidElement, {}, made_by, flat, (flat.w(), Ring(CUBIC).w()))


class NotTrue(unittest.TestCase):
    """[10.7]"""

    def test_norms_of_products(self):
        self.assertEqual((OVER.norm, (OVER * OVER).norm), ((1, 4), (1, 4)))

    def test_its_own_quotient_is_the_ring(self):
        top = dual(whole(BELOW))
        self.assertEqual((quotient(top, top) == whole(BELOW), is_undone(top)), (True, False))

    def test_equal_norms(self):
        ring = Ring(PLAIN)
        one, other = Ideal(ring, ((1, 1, 0), (0, 2, 0), (0, 0, 1))), Ideal(ring, ((2, 0, 0), (0, 1, 0), (0, 0, 1)))
        self.assertEqual((one.norm, one == other), (other.norm, False))

    def test_what_is_in_both(self):
        ring = Ring(ROOT)
        first = made_by(ring, (ring.w(),))
        self.assertEqual((ring.w() in first, ring.w() in first * first), (True, False))


if __name__ == "__main__":
    unittest.main()
