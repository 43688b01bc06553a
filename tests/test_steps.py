import itertools
import unittest

from formrings.above import steps
from formrings.above.steps import (
    above, bar, behind, below, greatest, heavy_places, is_bar, is_greatest, is_path, path, roots_at)
from formrings.errors import InvalidForm, InvalidNumber, InvalidOperation, TooMany
from formrings.form.forms import Form
from formrings.led.least import is_least, least_form
from formrings.ring.rings import Ring, ring_by_table
from tests.helper import (
    CUBIC, IDLE, LONG, LONGEST, NO_PRIMES, NO_TUPLES, NOTHING, OBJECTS, PLAIN, ROOT, ROUND, Refusals, nested,
    no_objects, numbers, rows_of, some_changes)

MOST = 10 ** 8
SMALL = rows_of(101, 40, 4, 6) + [
    (0, 1, 1, 0), (1, 0, 0, -2), (4, 2, 1, 1), (1, 0, 0, -10), (2, 2, 0, 2), (0, 2, 2, 0), (8, 4, 2, 1), (1, 2, 4, 8),
    (9, 3, 1, 1), (9, 9, 3, 2), (4, 4, 4, 8), (27, 9, 3, 1), (1, 3, 9, 27), (0, 0, 0, 0), (0, 0, 1, 0), (0, 0, 0, 4),
    (12, 0, 6, 3), (5, 10, 25, 50), (1, 1, 1, 1), (4, 0, 0, 4), (25, 5, 1, 3)]
# Forms whose rings are greatest, of both signs and with all numbers of roots.
TOPS = (CUBIC, ROUND, PLAIN, ROOT, Form((0, 1, 1, 6)), Form((0, 1, 0, -2)), Form((3, 5, 7, 6)), Form((1, 0, 1, 1)))
WITH_DISCRIMINANT = (bar, is_greatest, greatest, path)
JUDGES = (is_bar, is_path, behind)


def places(prime):
    return sorted([(x, 1) for x in range(prime)] + [(1, 0)])


def heavy_by_words(form, prime, place):
    a, b, c, _ = form.coefficients
    if place == (1, 0):
        return a % prime ** 2 == 0 and b % prime == 0
    x = place[0]
    return form(x, 1) % prime ** 2 == 0 and (3 * a * x * x + 2 * b * x + c) % prime == 0


def in_basis(basis, element):
    """The integers of an element in 1 and two others of the kind (i + j w + k t) / n, or None."""
    (first, second) = basis
    (_, j, k), (_, m, n) = first.entries, second.entries
    det = j * n - k * m
    _, x, y = element.entries
    tops = ((x * n - y * m) * first.bottom, (y * j - x * k) * second.bottom)
    if any(top % (det * element.bottom) for top in tops):
        return None
    v, z = [top // (det * element.bottom) for top in tops]
    left = element - first.scaled(v) - second.scaled(z)
    return (left.entries[0], v, z) if left.bottom == 1 else None


def form_by_basis(first, second):
    """The form of the ring with this basis beside 1, or None if the products are not in it."""
    table = tuple(in_basis((first, second), value) for value in (first * first, first * second, second * second))
    return None if None in table else ring_by_table(table)[0].form


def down(form, seed, many):
    """A form below, and the index, after some steps."""
    source = numbers(seed)
    index = 1
    for _ in range(many):
        prime = source.choice((2, 3, 5, 7))
        roots = roots_at(form, prime)
        if roots and source.random() < 0.7:
            form, index = below(form, prime, source.choice(roots)), index * prime
        elif index * index * prime < 60:
            form, index = form.times(prime), index * prime * prime
    return form, index


class Examples(unittest.TestCase):
    def test_constant(self):
        self.assertEqual(steps.MAX_STEPPED, 100000000)

    def test_lines(self):
        self.assertEqual(
            [roots_at(PLAIN, 2), roots_at(Form((1, 1, 0, 1)), 2), roots_at(CUBIC, 23),
             heavy_places(Form((1, 0, 0, -10)), 3)],
            [((0, 1), (1, 0), (1, 1)), (), ((5, 1), (20, 1)), ((1, 1),)])
        self.assertEqual([str(below(PLAIN, 2, place)) for place in roots_at(PLAIN, 2)],
                         ['(0, 2, 1, 0)', '(0, 1, 2, 0)', '(0, 2, 3, 1)'])
        self.assertEqual([str(above(Form((1, 0, 0, -10)), 3, (1, 1))), str(above(Form((4, 2, 1, 1)), 2, (1, 0)))],
                         ['(3, 3, 1, -1)', '(1, 1, 1, 2)'])
        self.assertEqual(
            [bar(ROOT), bar(Form((2, 2, 0, 2))), bar(Form((1, 0, 0, -10))), is_bar(Form((6, 0, 0, 6)), ("content", 3)),
             is_greatest(CUBIC)],
            [None, ('content', 2), ('place', 3, (1, 1)), True, True])
        form, index = greatest(Form((2, 2, 0, 2)))
        self.assertEqual(
            [str(form), index, is_path(Form((2, 2, 0, 2)), (("part", 2),)), is_path(Form((2, 2, 0, 2)), ()),
             str(behind(Form((4, 2, 1, 1)), (("above", 2, (1, 0)),)))],
            ['(1, 0, 1, 1)', 4, True, False, '(1, 1, 1, 2)'])
        with self.assertRaises(InvalidOperation):
            below(CUBIC, 2, (0, 1))


class Places(unittest.TestCase):
    """[7.1]"""

    def test_roots_and_heavy_ones_by_the_words(self):
        for row in SMALL:
            form = Form(row)
            for prime in (2, 3, 5, 7, 23):
                self.assertEqual(roots_at(form, prime),
                                 tuple(place for place in places(prime) if form(*place) % prime == 0))
                self.assertEqual(heavy_places(form, prime),
                                 tuple(place for place in places(prime) if heavy_by_words(form, prime, place)))

    def test_heavy_ones_by_moving_to_the_end(self):
        for row in SMALL:
            for prime in (2, 3, 5):
                for x in range(prime):
                    for moved in (x, x + prime, x - 2 * prime):
                        a, b, _, _ = Form(row).led(((moved, 1), (1, 0))).coefficients
                        self.assertEqual(a % prime ** 2 == 0 and b % prime == 0,
                                         (x, 1) in heavy_places(Form(row), prime))

    def test_great_primes_and_long_coefficients(self):
        self.assertEqual(roots_at(Form((9973, 0, 0, 1)), 9973), ((1, 0),))
        self.assertEqual(len(roots_at(NOTHING, 9973)), 9974)
        self.assertEqual(heavy_places(Form((9973 ** 2, 9973, 1, 1)), 9973), ((1, 0),))
        self.assertEqual(heavy_places(Form((1, -2 * 9972, 9972 ** 2, 0)), 9973), ((9972, 1),))
        self.assertEqual(heavy_places(Form((9973 ** 2, 1, 9973, 9973 ** 2)), 9973), ((0, 1),))
        form = Form((LONGEST, 1, 2, 10 ** 59 + 7)).times(LONGEST).times(49)
        for prime in (2, 3, 7, 13):
            self.assertEqual(roots_at(form, prime),
                             tuple(place for place in places(prime) if form(*place) % prime == 0))
            self.assertEqual(heavy_places(form, prime),
                             tuple(place for place in places(prime) if heavy_by_words(form, prime, place)))


class GreatPrimes(unittest.TestCase):
    """[7.1], at primes at which not all residues are tried"""

    def forms(self, prime):
        """Forms with each number of roots, also taken twice and three times, and with the end among them."""
        source = numbers(214)
        for _ in range(12):
            yield Form(tuple(source.randrange(-prime, prime) for _ in range(4)))
        for _ in range(8):
            i, j, k = [source.randrange(prime) for _ in range(3)]
            for r, s, t in ((i, j, k), (i, i, k), (i, i, i), (0, i, j), (0, 0, 0)):
                unit = source.randrange(1, prime)
                row = (1, -(r + s + t), r * s + r * t + s * t, -r * s * t)
                yield Form(tuple(unit * number for number in row))
                yield Form(tuple(unit * number % prime for number in row)[::-1])
            yield Form((prime * i, 1, -(i + j), i * j))
            yield Form((prime, prime, 1, -k))
        yield Form((0, 0, 0, 1))
        yield Form((prime, 0, -prime, 5))
        yield Form((2 * prime, 0, 3 * prime, prime))

    def test_against_all_residues(self):
        for prime in (997, 1009, 1013, 2003, 9973):
            many = set()
            for form in self.forms(prime):
                a, b, c, d = form.coefficients
                found = [(x, 1) for x in range(prime) if (((a * x + b) * x + c) * x + d) % prime == 0]
                if a % prime == 0:
                    found = sorted(found + [(1, 0)])
                self.assertEqual(roots_at(form, prime), tuple(found))
                many.add(len(found))
                heavy = [(x, y) for x, y in found if self.is_heavy(form, prime, x, y)]
                self.assertEqual(heavy_places(form, prime), tuple(heavy))
            self.assertEqual(many, {0, 1, 2, 3, prime + 1})

    def is_heavy(self, form, prime, x, y):
        a, b, _, _ = form.led(((x, y), (-1, 0)) if y == 1 else ((1, 0), (0, 1))).coefficients
        return a % (prime * prime) == 0 and b % prime == 0

    def test_heavy_places_at_small_primes(self):
        many = 0
        for prime in (2, 3, 5, 7, 11, 13):
            for row in rows_of(215 + prime, 60, 4, 30):
                for rows in ((1, 1, 1, 1), (prime * prime, prime, 1, 1), (1, 1, prime, prime * prime), (prime,) * 4):
                    for change in (IDLE, ((1, 1), (0, 1)), ((1, 0), (2, 1)), ((3, 1), (2, 1))):
                        form = Form(tuple(one * two for one, two in zip(row, rows))).led(change)
                        heavy = [(x, y) for x, y in roots_at(form, prime) if self.is_heavy(form, prime, x, y)]
                        many += len(heavy) > 0
                        self.assertEqual(heavy_places(form, prime), tuple(heavy))
        self.assertGreater(many, 2000)


class Within(unittest.TestCase):
    """[7.2]"""

    def test_coefficients_and_rings(self):
        for row in SMALL:
            form, ring = Form(row), Ring(Form(row))
            w, t = ring.w(), ring.t()
            for prime in (2, 3, 5):
                for place in places(prime):
                    x, y = place
                    first, second = (w.scaled(prime), w.scaled(x) + t) if y == 1 else (w, t.scaled(prime))
                    told = form_by_basis(first, second)
                    if place not in roots_at(form, prime):
                        self.assertIsNone(told)
                        continue
                    found = below(form, prime, place)
                    self.assertEqual(found, told, (row, prime, place))
                    self.assertEqual(found.discriminant, form.discriminant * prime ** 2)
                    for i, j in ((1, 0), (0, 1), (1, 1), (2, -1)):
                        value = form(prime * i + x * j, j) if y == 1 else form(i, prime * j)
                        self.assertEqual(found(i, j) * prime, value)

    def test_a_step_up_takes_a_step_down_back(self):
        for row in SMALL:
            form = Form(row)
            for prime in (2, 3, 5):
                for place in roots_at(form, prime):
                    found = below(form, prime, place)
                    end = (0, 1) if place == (1, 0) else (1, 0)
                    self.assertIn(end, heavy_places(found, prime))
                    back = above(found, prime, end)
                    if place == (1, 0):
                        self.assertEqual(back, form)
                    else:
                        self.assertEqual(back, form.led(((1, 0), (place[0], 1))))


class Around(unittest.TestCase):
    """[7.3], [7.4]"""

    def test_coefficients_and_rings(self):
        tried = 0
        for row in SMALL:
            form, ring = Form(row), Ring(Form(row))
            w, t = ring.w(), ring.t()
            for prime in (2, 3, 5):
                for place in places(prime):
                    x, y = place
                    told = []
                    for i in range(prime):
                        more = ring.one().scaled(i)
                        if y == 1:
                            told.append(form_by_basis(w, (w.scaled(x) + t + more).scaled(1, prime)))
                        else:
                            told.append(form_by_basis((w + more).scaled(1, prime), t))
                    told = [value for value in told if value is not None]
                    if place not in heavy_places(form, prime):
                        self.assertEqual(told, [], (row, prime, place))
                        continue
                    found = above(form, prime, place)
                    self.assertEqual(told, [found])
                    self.assertEqual(found.discriminant * prime ** 2, form.discriminant)
                    tried += 1
        self.assertGreater(tried, 40)

    def test_by_the_words(self):
        for row in SMALL:
            a, b, c, d = row
            for p in (2, 3, 5):
                for x, y in heavy_places(Form(row), p):
                    told = (p * a, 3 * a * x + b, (3 * a * x * x + 2 * b * x + c) // p, Form(row)(x, 1) // (p * p))
                    if y == 0:
                        told = (a // (p * p), b // p, c, p * d)
                    self.assertEqual(above(Form(row), p, (x, y)), Form(told))

    def test_contents(self):
        for row in SMALL:
            ring = Ring(Form(row))
            for prime in (2, 3):
                self.assertEqual(form_by_basis(ring.w().scaled(prime), ring.t().scaled(prime)), Form(row).times(prime))


class Bars(Refusals, unittest.TestCase):
    """[7.5]"""

    def bars(self, form):
        found = []
        for prime in (2, 3, 5, 7, 11, 13):
            if form.content % prime == 0:
                found.append(("content", prime))
            found += [("place", prime, place) for place in places(prime) if heavy_by_words(form, prime, place)]
        return found

    def test_each_kind_and_the_least_one(self):
        kinds = set()
        for row in SMALL + [tuple(6 * number for number in CUBIC.coefficients), (49, 7, 1, 1), (121, 0, 0, 11)]:
            form = Form(row)
            if form.discriminant == 0:
                continue
            found = self.bars(form)
            self.assertEqual(bar(form), found[0] if found else None, row)
            self.assertIs(is_greatest(form), not found)
            for value in found:
                self.assertIs(is_bar(form, value), True)
                kinds.add((value[0], value[-1] == (1, 0)))
            for word, prime in itertools.product(("content", "place"), (2, 3, 5, 7)):
                for value in [(word, prime)] + [(word, prime, place) for place in places(prime)]:
                    self.assertIs(is_bar(form, value), value in found, (row, value))
        self.assertEqual(len(kinds), 3)

    def test_values_near_bars(self):
        form = Form((4, 4, 4, 8)).times(3)
        for value in (("content", 2), ("content", 3), ("place", 2, (0, 1)), ("place", 2, (1, 0)), ("place", 2, (1, 1))):
            self.assertIs(is_bar(form, value), True, value)
        for value in NO_TUPLES + (
                (), ("content",), ("content", 1), ("content", 0), ("content", -2), ("content", -3), ("content", 4),
                ("content", 6), ("content", 12), ("content", 5), ("content", True), ("content", None), ("content", "2"),
                ("content", (2,)), ("content", 2, (0, 1)), ("content", 2, 2), ["content", 2], ("Content", 2),
                ("part", 2), (b"content", 2), (2, "content"), ("content", LONG), ("content", 2 * LONG), (("content", 2),),
                ("place", 2), ("place", 2, (2, 1)), ("place", 2, (-1, 1)), ("place", 2, (2, 0)), ("place", 2, (-1, 0)),
                ("place", 2, (0, 2)), ("place", 2, (0, -1)), ("place", 2, (0, 0)), ("place", 2, (1, True)),
                ("place", 2, (True, 0)), ("place", 2, (1, False)), ("place", 2, [0, 1]), ("place", 2, (0, 1, 0)),
                ("place", 2, ((0, 1),)), ("place", 4, (0, 1)), ("place", 1, (0, 1)), ("place", 0, (1, 0)),
                ("place", -2, (1, 0)), ("place", 5, (0, 1)), ("place", True, (1, 0)), ("place", 6, (1, 0)),
                ("place", None, (0, 1)), ("place", 2, None), ("place", 2, "01"), ("above", 2, (0, 1)),
                ("place", 2, (LONG, 1)), ("place", 2, (0, 1), 0), nested(8), ("place", 9, (1, 0))) + OBJECTS:
            self.assertIs(is_bar(form, value), False, value)
        for value in OBJECTS:
            self.assertIs(is_bar(form, ("content", value)), False)
            self.assertIs(is_bar(form, (value, 2)), False)
            self.assertIs(is_bar(form, ("place", 2, value)), False)

    def test_a_prime_above_10000_is_no_bar(self):
        self.assertIs(is_bar(Form((0, 1, 1, 6)), ("place", 10007, (1, 0))), False)
        self.assertIs(is_bar(PLAIN, ("content", 10 ** 99)), False)

    def test_great_primes(self):
        found = below(PLAIN, 9973, (0, 1))
        self.assertEqual(found.discriminant, 9973 ** 2)
        for form in (found, found.led(((1, 2), (1, 3)))):
            self.assertEqual(bar(form)[:2], ("place", 9973))
            self.assertIs(is_bar(form, bar(form)), True)
            self.assertEqual(greatest(form), (PLAIN, 9973))
            self.assertEqual(path(form), (("above", 9973, bar(form)[2]),))


class Greatest(unittest.TestCase):
    """[7.5], [7.6], [0.14]"""

    def test_after_several_steps(self):
        seen = set()
        for seed in range(60):
            top = TOPS[seed % len(TOPS)]
            form, index = down(top, 200 + seed, 1 + seed % 5)
            if abs(form.discriminant) > MOST:
                continue
            for change in some_changes(300 + seed, 2):
                led = form.led(change)
                self.assertEqual(greatest(led), (least_form(top), index))
                self.assertEqual(led.discriminant, top.discriminant * index * index)
                self.assertIs(is_greatest(led), index == 1)
            seen.add(index)
        self.assertGreater(len(seen), 12)

    def test_small_forms(self):
        for row in itertools.product(range(-2, 4), repeat=4):
            form = Form(row)
            if form.discriminant == 0:
                continue
            found, index = greatest(form)
            self.assertTrue(is_least(found))
            self.assertIs(is_greatest(found), True)
            self.assertEqual(found.discriminant * index * index, form.discriminant)
            self.assertEqual(index == 1, is_greatest(form))
            last = behind(form, path(form))
            self.assertEqual(least_form(last), found)

    def test_long_coefficients_and_small_discriminants(self):
        great = ((10 ** 59 + 1, 10 ** 59), (1, 1))
        for top in (CUBIC, ROUND, PLAIN, Form((0, 1, 1, 6))):
            form = below(top, 5, roots_at(top, 5)[0]) if roots_at(top, 5) else top.times(5)
            long = form.led(great).led(great)
            self.assertEqual(greatest(long), greatest(form))
            self.assertEqual(behind(long, path(long)).discriminant, top.discriminant)
            self.assertIs(is_path(long, path(long)), True)
            self.assertIs(is_bar(long, bar(long)), True)

    def test_the_bound_of_the_discriminant(self):
        for form, number in ((Form((0, 1, 0, -25 * 10 ** 6)), MOST), (Form((0, 1, 0, 25 * 10 ** 6)), -MOST)):
            self.assertEqual(form.discriminant, number)
            found, index = greatest(form)
            self.assertEqual((found.discriminant * index * index, is_path(form, path(form))), (number, True))
            self.assertEqual((is_greatest(form), bar(form)[:2]), (False, ("place", 2)))
            self.assertIs(is_bar(form, bar(form)), True)


class Paths(Refusals, unittest.TestCase):
    """[7.6], [0.6]"""

    def test_all_paths_of_some_forms(self):
        for form in (Form((2, 2, 0, 2)), Form((4, 4, 4, 8)), Form((0, 6, 6, 0)), Form((4, 2, 1, 1)), Form((0, 4, 0, -4)),
                     CUBIC, PLAIN.times(4), Form((12, 0, 6, 3)), below(below(PLAIN, 5, (4, 1)), 5, (1, 0))):
            top = greatest(form)[0]
            self.assertIs(is_path(form, path(form)), True)
            stack, ended = [((), form)], 0
            while stack:
                row, last = stack.pop()
                self.assertEqual(behind(form, row), last)
                self.assertIs(is_path(form, row), is_greatest(last))
                if is_greatest(last):
                    self.assertEqual(least_form(last), top)
                    ended += 1
                for prime in (2, 3, 5):
                    if last.content % prime == 0:
                        stack.append((row + (("part", prime),), last.divided(prime)))
                    for place in heavy_places(last, prime):
                        stack.append((row + (("above", prime, place),), above(last, prime, place)))
            self.assertGreater(ended, 0)

    def test_values_near_paths(self):
        form = PLAIN.times(2).led(((1, 0), (1, 1)))
        form = below(below(form, 3, roots_at(form, 3)[0]), 5, (1, 0))
        right = path(form)
        self.assertEqual(len(right), 3)
        unended = [(), right[:1], right[:2]]
        for value in unended:
            self.assertIs(is_path(form, value), False)
            self.assertIs(type(behind(form, value)), Form)
        last = right[-1]
        wrong = [
            right + right[-1:], right + (("part", 2),), right + ((),), right + (None,), list(right), (right,), right[0],
            right + ("part",), right[:-1] + (list(last),), right[:-1] + (last + (0,),), {1: right}, right[1:] + right,
            right[:-1] + (("place",) + last[1:],), (("content", 2),), (("part", 1),) + right, (("part", 4),),
            (("part", 2), ("part", 2)), (("part", -2),), (("part", True),), (("part", 2, (0, 1)),), (("above", 2),),
            (("above", 5, (0, 1)),) * 9, (("above", True, (0, 1)),), (("above", 5, (5, 1)),), (("above", 5, [0, 1]),),
            (("above", 5, (True, 1)),), (("above", 7, (0, 1)),), (("part", 2 * LONG),), (("above", 25, (0, 1)),), "part",
            (("above", 3, None),), (("above", None, (0, 1)),), (("part", None),), (["part", 2],), ((2, "part"),)]
        for value in wrong + list(NO_TUPLES) + [nested(8)] + [(each,) for each in OBJECTS]:
            self.assertIs(is_path(form, value), False, value)
            self.refuses(InvalidOperation, {}, behind, form, value)

    def test_the_empty_path(self):
        for form in TOPS:
            self.assertEqual((path(form), behind(form, ()), is_path(form, ())), ((), form, True))
        self.assertIs(is_path(Form((2, 2, 0, 2)), ()), False)
        self.assertEqual(behind(Form((2, 2, 0, 2)), ()), Form((2, 2, 0, 2)))


class Refused(Refusals, unittest.TestCase):
    """[0.4], [0.7], and the errors of the stage"""

    def test_wrong_forms(self):
        for value in no_objects(Form):
            for call in (roots_at, heavy_places):
                self.refuses(InvalidForm, {}, call, value, 2)
                self.refuses(InvalidForm, {}, call, value, 4)
            for call in (below, above):
                self.refuses(InvalidForm, {}, call, value, 2, (1, 0))
                self.refuses(InvalidForm, {}, call, value, 4, None)
            for call in WITH_DISCRIMINANT:
                self.refuses(InvalidForm, {}, call, value)
            for call in JUDGES:
                self.refuses(InvalidForm, {}, call, value, ())
                self.refuses(InvalidForm, {}, call, value, None)

    def test_wrong_primes(self):
        for value in NO_PRIMES:
            for call in (roots_at, heavy_places):
                self.refuses_number(InvalidNumber, value, call, CUBIC, value)
            for call in (below, above):
                self.refuses_number(InvalidNumber, value, call, PLAIN, value, (1, 0))
                self.refuses_number(InvalidNumber, value, call, PLAIN, value, None)

    def test_wrong_places(self):
        form = Form((4, 2, 4, 8))
        self.assertEqual(heavy_places(form, 2), ((0, 1), (1, 0)))
        for value in NO_TUPLES + (
                (), (1,), (1, 0, 0), [1, 0], (True, 0), (1, False), (0, True), (2, 1), (-1, 1), (0, 2), (2, 0), (-1, 0),
                (0, 0), (0, -1), (1, -1), (LONG, 1), (-LONG, 1), ((1, 0),), (None, 1), (0, None), ("1", 0), nested(8)):
            self.refuses(InvalidOperation, {}, below, form, 2, value)
            self.refuses(InvalidOperation, {}, above, form, 2, value)
            self.refuses(InvalidOperation, {}, below, NOTHING, 2, value)
            self.refuses(InvalidOperation, {}, above, NOTHING, 2, value)
        for row in SMALL:
            for place in places(3):
                if place not in roots_at(Form(row), 3):
                    self.refuses(InvalidOperation, {}, below, Form(row), 3, place)
                if place not in heavy_places(Form(row), 3):
                    self.refuses(InvalidOperation, {}, above, Form(row), 3, place)

    def test_the_discriminant_0(self):
        for form in (NOTHING, Form((0, 0, 1, 0)), Form((4, 0, -3, 1)), Form((0, 0, 0, LONGEST))):
            for call in WITH_DISCRIMINANT:
                self.refuses(InvalidOperation, {}, call, form)
            for call in JUDGES:
                self.refuses(InvalidOperation, {}, call, form, ())
                self.refuses(InvalidOperation, {}, call, form, None)

    def test_great_discriminants(self):
        for row in ((0, 1, 1, -25 * 10 ** 6), (0, 1, 1, 25 * 10 ** 6 + 1), (LONGEST, 0, 0, 1), (1, 0, 0, LONGEST)):
            for call in WITH_DISCRIMINANT:
                self.refuses(TooMany, {"most": MOST}, call, Form(row))
            for call in JUDGES:
                self.refuses(TooMany, {"most": MOST}, call, Form(row), ())
                self.refuses(TooMany, {"most": MOST}, call, Form(row), None)
        self.assertEqual(Form((0, 1, 1, -25 * 10 ** 6)).discriminant, MOST + 1)
        self.assertEqual(Form((0, 1, 1, 25 * 10 ** 6 + 1)).discriminant, -MOST - 3)

    def test_the_first_five_have_no_such_bounds(self):
        form = Form((0, 0, 4, 8))
        self.assertEqual(roots_at(form, 2), ((0, 1), (1, 0), (1, 1)))
        self.assertIn((1, 0), heavy_places(form, 2))
        self.assertEqual(above(form, 2, (1, 0)), Form((0, 0, 4, 16)))
        self.assertEqual(below(Form((0, 0, 0, LONGEST)), 3, (1, 0)), Form((0, 0, 0, LONGEST)).times(9))


class NotTrue(unittest.TestCase):
    """[0.20], as far as these functions bear it out"""

    def test_no_ring_above_with_a_prime_index(self):
        form = Form((2, 2, 0, 2))
        self.assertIs(is_greatest(form), False)
        self.assertEqual([heavy_places(form, prime) for prime in (2, 3, 5, 31)], [()] * 4)

    def test_a_square_in_the_discriminant(self):
        self.assertIs(is_greatest(ROUND), True)
        self.assertIs(is_greatest(ROOT), True)

    def test_rings_below_that_are_alike_modulo_each_integer(self):
        form = Form((0, 1, 1, 2))
        found = [least_form(below(form, 2, place)) for place in roots_at(form, 2)]
        self.assertEqual(len(found), 3)
        self.assertGreater(len({each.coefficients for each in found}), 1)


if __name__ == "__main__":
    unittest.main()
