"""What several stages say of one thing: the main statements of the document."""

import itertools
import math
import unittest

from formrings.above.counts import count_below, form_below, tables_below
from formrings.above.steps import above, bar, behind, below, greatest, heavy_places, is_greatest, path, roots_at
from formrings.base.integers import is_fundamental
from formrings.box.boxes import box_of, is_balanced
from formrings.double.classes import classes_of, first_class, power_of, ring_count, thirds
from formrings.form.forms import Form
from formrings.ideal.ideals import Ideal, dual, is_undone, quotient, whole
from formrings.ideal.primes import ideals_of, primes_over
from formrings.led.least import least_form
from formrings.led.ways import are_led, images, turns, way
from formrings.listing.lists import fields_of, rings_of, with_roots
from formrings.makers.makers import all_makers, common_index, maker_bar, makers
from formrings.prime.kinds import kind_at, kinds_to, maps_at
from formrings.ring.rings import Ring, index_of, ring_by_table
from formrings.shelf.shelf import Shelf
from formrings.special.squares import is_turning, square_fields
from formrings.text.texts import read, write
from formrings.threefold.threefolds import form_of_threefold, threefolds_of
from tests.helper import CUBIC, IDLE, NOTHING, PLAIN, ROOT, ROUND, determinant, some_changes

# Discriminants above and below 0, squares and others; one, three or no roots; contents; rings that are not greatest.
FORMS = [CUBIC, ROUND, PLAIN, ROOT, Form((0, 1, 1, 6)), Form((1, 0, -4, -1)), Form((3, 5, 7, 6)), Form((0, 2, 1, 3)),
         Form((0, 1, 0, -2)), Form((2, 2, 0, 2)), Form((0, 2, 2, 0)), Form((4, 2, 1, 1)), Form((1, 0, 0, -10)),
         Form((3, 9, 6, -3)), Form((0, 1, 2, 0)), Form((1, 2, 4, 13))]
# With the discriminant 0.
FLAT = [NOTHING, Form((0, 0, 0, 2)), Form((0, 0, 3, 1)), Form((4, 0, -3, 1))]


def square_sides(number):
    """All n from 1 on whose square divides the number."""
    return [side for side in range(1, math.isqrt(abs(number)) + 1) if number % (side * side) == 0]


def rings_within(form, index):
    """The least forms of all rings within with this index."""
    return [least_form(form_below(form, table)) for table in tables_below(form, index)]


def told(forms):
    return sorted(form.coefficients for form in forms)


class OneThing(unittest.TestCase):
    """[0.10], [0.12]"""

    def test_what_stays(self):
        for form in FORMS:
            for change in some_changes(201, 12):
                led = form.led(change)
                self.assertEqual((led.discriminant, led.content), (form.discriminant, form.content))
                self.assertEqual(least_form(led), least_form(form))
                self.assertEqual(len(led.roots()), len(form.roots()))
                self.assertEqual(len(turns(led)), len(turns(form)))
                self.assertEqual(kinds_to(led, 13), kinds_to(form, 13))
                self.assertEqual(greatest(led), greatest(form))
                self.assertEqual(is_greatest(led), is_greatest(form))
                self.assertEqual(is_turning(led), is_turning(form))
                self.assertEqual((common_index(led), maker_bar(led)), (common_index(form), maker_bar(form)))
                for index in (2, 3, 4, 9):
                    self.assertEqual(told(rings_within(led, index)), told(rings_within(form, index)))
                for prime in (2, 3, 5):
                    self.assertEqual(len(maps_at(led, prime)), len(maps_at(form, prime)))
                    self.assertEqual(len(heavy_places(led, prime)), len(heavy_places(form, prime)))
                    self.assertEqual([degree for _, degree in primes_over(Ring(led), prime)],
                                     [degree for _, degree in primes_over(Ring(form), prime)])

    def test_what_stays_with_the_discriminant_0(self):
        for form in FLAT:
            for change in some_changes(202, 12):
                led = form.led(change)
                self.assertEqual((led.discriminant, led.content, least_form(led)), (0, form.content, least_form(form)))
                self.assertEqual(kinds_to(led, 13), kinds_to(form, 13))
                self.assertEqual((common_index(led), maker_bar(led)), (common_index(form), maker_bar(form)))
                self.assertIs(are_led(led, form), True)

    def test_the_rings_are_led(self):
        for form in FORMS + FLAT:
            for change in some_changes(203, 8):
                led = form.led(change)
                found = way(form, led)
                self.assertEqual(form.led(found), led)
                ring = Ring(form)
                w, t = [ring.element(entries) for entries in images(form, led, found)]
                # The products of the images have the table of the ring that is led to.
                other = Ring(led)
                for one, two, image in ((w, w, other.w() * other.w()), (w, t, other.w() * other.t()),
                                        (t, t, other.t() * other.t())):
                    u, x, y = image.entries
                    self.assertEqual(one * two, ring.one().scaled(u) + w.scaled(x) + t.scaled(y))

    def test_numbers_of_makers_and_of_ideals(self):
        for form in (Form((0, 1, 1, -1)), Form((0, 0, 2, 1)), PLAIN, Form((0, 1, 1, 6))):
            for change in some_changes(204, 8):
                led = form.led(change)
                self.assertEqual(len(all_makers(led)), len(all_makers(form)))
                self.assertEqual([len(ideals_of(Ring(led), norm)) for norm in (2, 3, 4)],
                                 [len(ideals_of(Ring(form), norm)) for norm in (2, 3, 4)])


class Indices(unittest.TestCase):
    """[0.13]"""

    def test_values_and_indices(self):
        for form in FORMS + FLAT:
            ring = Ring(form)
            indices = [index_of(ring.element((7, x, y))) for x, y in itertools.product(range(-4, 5), repeat=2)]
            self.assertEqual(1 in indices, len(makers(form, 4)) > 0)
            self.assertEqual(math.gcd(*indices), common_index(form))

    def test_a_common_divisor(self):
        for row in itertools.product(range(3), repeat=4):
            form = Form(row)
            even = [number % 2 for number in row] == [0, 1, 1, 0]
            self.assertEqual(common_index(form) != 1, form.content != 1 or even)


class BelowAndAbove(unittest.TestCase):
    """[0.14]"""

    def test_roots_and_rings_within(self):
        for form in FORMS:
            for prime in (2, 3, 5, 7):
                places = roots_at(form, prime)
                self.assertEqual(len(places), count_below(form, prime))
                self.assertEqual(told([least_form(below(form, prime, place)) for place in places]),
                                 told(rings_within(form, prime)))

    def test_steps_to_the_greatest_ring(self):
        for form in FORMS:
            top, index = greatest(form)
            self.assertEqual(form.discriminant, top.discriminant * index * index)
            self.assertEqual(least_form(behind(form, path(form))), top)
            self.assertIsNone(bar(top))
            for prime in (2, 3, 5):
                for place in heavy_places(form, prime):
                    self.assertEqual(greatest(above(form, prime, place)), (top, index // prime))


class Primes(unittest.TestCase):
    """[0.15]"""

    def test_kinds_and_ideals(self):
        degrees = {"all": [1], "three": [1, 1, 1], "pair": [1, 2], "none": [3], "twice": [1, 1], "thrice": [1]}
        for form in FORMS:
            for prime in (2, 3, 5, 7, 23):
                found = [degree for _, degree in primes_over(Ring(form), prime)]
                self.assertEqual(found, degrees[kind_at(form, prime)])

    def test_undone_ones(self):
        for form in FORMS:
            ring = Ring(form)
            ideals = [ideal for prime in (2, 3) for ideal, _ in primes_over(ring, prime)]
            ideals += [ideal * ideal for ideal in ideals] + [dual(whole(ring)), whole(ring)]
            for ideal in ideals:
                kept = quotient(ideal, ideal) == whole(ring)
                if form.content == 1:
                    self.assertEqual(is_undone(ideal), kept)
                elif is_undone(ideal):
                    self.assertTrue(kept)
            self.assertEqual(is_undone(dual(whole(ring))), form.content == 1)
            if is_greatest(form):
                self.assertTrue(all(is_undone(ideal) for ideal in ideals))

    def test_a_ring_that_is_not_greatest_has_one_that_is_not_undone(self):
        for form in FORMS:
            if not is_greatest(form):
                ring = Ring(form)
                over = [ideal for prime in (2, 3, 5) for ideal, _ in primes_over(ring, prime)]
                self.assertFalse(all(is_undone(ideal) for ideal in over))

    def test_a_greater_ring_is_an_ideal(self):
        # The ring of PLAIN, over the ring of twice PLAIN.
        ring = Ring(PLAIN.times(2))
        ideal = Ideal(ring, ((2, 0, 0), (0, 1, 0), (0, 0, 1)), 2)
        self.assertEqual((ideal * ideal, is_undone(ideal), quotient(ideal, ideal)), (ideal, False, ideal))


class Discriminants(unittest.TestCase):
    """[0.16], [6.3], [6.4], [14.5]"""

    def tops(self, number):
        return [form for form in rings_of(number) if is_greatest(form)]

    def test_lists_by_greatest_rings(self):
        # Several rings within can be alike, by a turn of the greatest one; without turns there are as many as counted.
        for number in list(range(-260, 260)) + [-2012, -2023, 1125, 49 * 16, 81 * 9, -23 * 144, -31 * 81, 5 * 400,
                                                3600]:
            if number == 0:
                continue
            found, many = set(), 0
            for side in square_sides(number):
                for top in self.tops(number // (side * side)):
                    within = rings_within(top, side)
                    self.assertEqual(len(within), count_below(top, side))
                    found |= {form.coefficients for form in within}
                    many += len(within) if not top.roots() else 0
            self.assertEqual(sorted(found), [form.coefficients for form in rings_of(number)])
            if number < 0:
                self.assertEqual(many, len([form for form in rings_of(number) if not form.roots()]))

    def test_fundamental_ones(self):
        for number in list(range(-600, 600)) + [-3299, -3896]:
            if number != 1 and is_fundamental(number):
                self.assertEqual(len(rings_of(number)), (thirds(number) + 1) // 2)
                self.assertEqual(len(rings_of(number)), ring_count(number))
                self.assertEqual(len(fields_of(number)), ring_count(number) - 1)
                self.assertEqual(len(with_roots(number)), 1)

    def test_squares(self):
        # [0.18]
        for side in range(1, 100):
            turned = tuple(form for form in fields_of(side * side) if len(turns(form)) == 3)
            self.assertEqual(turned, fields_of(side * side))
            self.assertEqual(square_fields(side), fields_of(side * side))


class Thirds(unittest.TestCase):
    """[0.17], [15.3]"""

    def test_small_hessians_and_third_powers(self):
        for number in [number for number in range(-500, 0) if number % 4 < 2] + [-3299, -4027]:
            right = 0
            for double in classes_of(number):
                found = threefolds_of(double)
                self.assertEqual(len(found) > 0, power_of(double, 3) == first_class(number))
                for row in found:
                    a, b, c, d = form_of_threefold(row).coefficients
                    self.assertEqual((b % 3, c % 3), (0, 0))
                    hessian = Form((a, b, c, d)).hessian.coefficients
                    self.assertEqual(hessian, tuple(9 * each for each in double.coefficients))
                right += len(found) > 0
            self.assertEqual(right, thirds(number))


class Turns(unittest.TestCase):
    """[0.18]"""

    def test_turns_of_order_three(self):
        for number in [side * side for side in range(1, 40)] + [229, 148, 5, 8, 12, -23]:
            for form in rings_of(number):
                third = [turn for turn in turns(form) if turn != IDLE and determinant(turn) == 1]
                self.assertEqual(len(third) > 0, is_turning(form))
                if is_greatest(form) and not form.roots():
                    self.assertEqual(len(third) > 0, math.isqrt(abs(number)) ** 2 == number)


class Boxes(unittest.TestCase):
    """[0.19]"""

    def test_boxes_of_balanced_ideals(self):
        for form in FORMS:
            ring = Ring(form)
            for prime in (2, 3, 5):
                for one, _ in primes_over(ring, prime):
                    other = quotient(whole(ring), one)
                    (i, j), (k, m) = one.norm, other.norm
                    self.assertEqual(is_balanced(one, other), i * k == j * m)
                    box = box_of(one, other)
                    self.assertEqual(box.form.times(j * m), form.times(i * k))
                    if is_undone(one):
                        self.assertIs(is_balanced(one, other), True)
                        self.assertEqual(box.form, form)


class Shelves(unittest.TestCase):
    """[17.5], [17.2]"""

    def test_what_is_led_keeps_what_is_said(self):
        for form in FORMS:
            shelf = Shelf()
            shelf.do(("put", "a", form), ("put", "b", form))
            for saying in (("alike", "a", "b"), ("discriminant", "a", form.discriminant),
                           ("kind", "b", 5, kind_at(form, 5))):
                shelf.say(saying)
            for name, prime in (("c", 2), ("d", 3)):
                for place in roots_at(form, prime)[:1]:
                    shelf.do(("put", name, form), ("down", name, prime, place))
                    shelf.say(("below", name, "a", prime))
            for change in some_changes(205, 8):
                shelf.do(("lead", "a", change), ("lead", "b", change))
                shelf.do(("least", "b"))
                self.assertTrue(all(shelf.is_true(saying) for saying in shelf.sayings))
                self.assertEqual(read(write(shelf["a"])), shelf["a"])


class NotTrue(unittest.TestCase):
    """[0.20]"""

    def test_rings_with_one_discriminant(self):
        self.assertEqual(len(fields_of(-3299)), 4)
        self.assertFalse(any(are_led(*pair) for pair in itertools.combinations(fields_of(-3299), 2)))

    def test_rings_that_are_alike_modulo_each_integer(self):
        form = Form((0, 1, 1, 2))
        within = [below(form, 2, place) for place in roots_at(form, 2)]
        self.assertEqual(len(within), 3)
        self.assertEqual(len({least_form(each).coefficients for each in within}), 2)
        # Modulo each integer of some size a change with a determinant of 1 or -1 there leads the one to the other.
        for one, other in itertools.permutations(within, 2):
            for modulus in (2, 3, 4, 5, 8):
                self.assertTrue(self.are_alike_modulo(one, other, modulus))

    def are_alike_modulo(self, one, other, n):
        wanted = tuple(number % n for number in other.coefficients)
        for p, q, r, s in itertools.product(range(n), repeat=4):
            e = (p * s - q * r) % n
            if e not in (1, n - 1):
                continue
            # By the words of [0.10], at enough places to tell a form of degree three by its rests.
            e = 1 if e == 1 else -1
            a, b, c, d = one.coefficients
            second = 3 * a * p * p * r + b * p * (p * s + 2 * q * r) + c * q * (2 * p * s + q * r) + 3 * d * q * q * s
            third = 3 * a * p * r * r + b * r * (2 * p * s + q * r) + c * s * (p * s + 2 * q * r) + 3 * d * q * s * s
            if tuple(e * each % n for each in (one(p, q), second, third, one(r, s))) == wanted:
                return True
        return False

    def test_no_ring_above_with_a_prime_index(self):
        form = Form((2, 2, 0, 2))
        self.assertIs(is_greatest(form), False)
        for prime in (2, 3, 5, 7, 11, 13, 31):
            self.assertEqual(heavy_places(form, prime), ())
        self.assertEqual(path(form), (("part", 2),))

    def test_a_greatest_ring_that_no_element_makes(self):
        form, = fields_of(-503)
        self.assertEqual((common_index(form), makers(form, 50), is_greatest(form)), (2, (), True))

    def test_a_square_without_a_turn(self):
        form = Form((0, 1, 2, 0))
        self.assertEqual((form.discriminant, len([turn for turn in turns(form) if determinant(turn) == 1])), (4, 1))

    def test_a_square_divisor(self):
        for number in (49, -44, 148, -108):
            self.assertGreater(len(fields_of(number)), 0)
            self.assertGreater(len(square_sides(number)), 1)

    def test_two_forms_with_one_hessian(self):
        one, other = Form((1, 0, 0, 6)), Form((2, 0, 0, 3))
        self.assertEqual(one.hessian, other.hessian)
        self.assertNotIn(one, (other, -other))
        self.assertIs(are_led(one, other), False)


class Tables(unittest.TestCase):
    """[0.11], [0.12]"""

    def test_the_form_of_a_table_of_products(self):
        for form in FORMS + FLAT:
            ring = Ring(form)
            for i, j in ((0, 0), (2, -3), (-1, 5)):
                w, t = ring.w() + ring.one().scaled(i), ring.t() + ring.one().scaled(j)
                rows = []
                for image in (w * w, w * t, t * t):
                    u, x, y = image.entries
                    rows.append((u - i * x - j * y, x, y))
                found, shifts = ring_by_table(tuple(rows))
                self.assertEqual((found, shifts), (ring, (i, j)))


if __name__ == "__main__":
    unittest.main()
