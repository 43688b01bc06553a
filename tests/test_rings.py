import itertools
import unittest

from formrings.errors import InvalidElement, InvalidForm, InvalidNumber, InvalidOperation, InvalidRing, Refused
from formrings.form.forms import Form
from formrings.ring import rings
from formrings.ring.rings import Element, Ring, index_of, is_right_table, ring_by_table, trace_table
from tests.helper import (
    CUBIC, IDLE, LONG, LONGEST, NO_INTEGERS, NO_TUPLES, NOTHING, OBJECTS, PLAIN, ROOT, ROUND, Refusals, determinant,
    nested, no_objects, no_rows, numbers, rows_of, some_changes)

ROWS = rows_of(51, 30, 4, 9) + rows_of(52, 5, 4, LONGEST) + [(0, 0, 0, 0), (0, 0, 0, 3), (1, 3, 3, 1), (2, 0, 0, -4)]
ZEROS = ((0, 0, 0),) * 3
NO_TABLES = NO_TUPLES + (
    (), (1, 2, 3), ZEROS[:2], ZEROS + ZEROS[:1], ((0, 0),) * 3, ((0, 0, 0, 0),) * 3, list(ZEROS), ([0, 0, 0],) * 3,
    ((0, 0, 0), (0, 0, 0), None), ("000",) * 3, (ZEROS,) * 3, nested(8), ((0, 0, 0), (0, 0, 0), (0, 0)), {1: ZEROS},
)


def determinant_of_three(rows):
    (a, b, c), (d, e, f), (g, h, i) = rows
    return a * (e * i - f * h) - b * (d * i - f * g) + c * (d * h - e * g)


def table_by(form, change, shifts):
    """The table of W = p w + q t + m and T = r w + s t + k in the ring of the form."""
    ring = Ring(form)
    (p, q), (r, s) = change
    m, k = shifts
    first, second = ring.element((m, p, q)), ring.element((k, r, s))
    e = determinant(change)
    table = []
    for value in (first * first, first * second, second * second):
        u, x, y = value.entries
        i, j = e * (x * s - y * r), e * (y * p - x * q)
        table.append((u - i * m - j * k, i, j))
    return tuple(table)


def product_by_words(table, one, other):
    """The product of two sums, as the table tells it."""
    result = [0, 0, 0]
    for i, a in enumerate(one):
        for j, b in enumerate(other):
            if min(i, j) == 0:
                row = [int(at == max(i, j)) for at in range(3)]
            else:
                row = table[i + j - 2]
            result = [total + a * b * each for total, each in zip(result, row)]
    return tuple(result)


def first_broken(table):
    """The letter of the first rule that the table breaks, or None."""
    w, t = (0, 1, 0), (0, 0, 1)

    def times(one, other):
        return product_by_words(table, one, other)
    if times(times(w, w), t) != times(w, times(w, t)):
        return "w"
    if times(times(w, t), t) != times(w, times(t, t)):
        return "t"
    return None


class Examples(unittest.TestCase):
    def test_constant(self):
        self.assertEqual(rings.MAX_POWER, 100)

    def test_lines(self):
        ring = Ring(CUBIC)
        self.assertEqual(trace_table(ring), ((3, 1, -2), (1, -3, -3), (-2, -3, 2)))
        self.assertEqual(
            [ring_by_table(((-6, 3, -1), (1, -2, 1), (-10, 1, -6))) == (ring, (1, -2)), is_right_table(ZEROS),
             is_right_table(((1, 0, 0), (0, 0, 1), (1, 0, 0)))],
            [True, True, False])
        self.assertEqual(str(Ring(PLAIN)), "ring of (0, 1, 1, 0)")
        self.assertEqual(table_by(CUBIC, IDLE, (1, -2)), ((-6, 3, -1), (1, -2, 1), (-10, 1, -6)))


class Rings(Refusals, unittest.TestCase):
    """[3.1], [0.11]"""

    def test_properties(self):
        for row in ROWS:
            ring = Ring(Form(row))
            self.assertEqual(ring.form, Form(row))
            self.assertEqual(ring.discriminant, Form(row).discriminant)
            self.assertEqual(str(ring), f"ring of {row}")
        self.keeps(ring, ("form", "discriminant"))

    def test_the_table_of_products(self):
        for a, b, c, d in ROWS:
            ring = Ring(Form((a, b, c, d)))
            w, t = ring.w(), ring.t()
            self.assertEqual((w * t).entries, (-a * d, 0, 0))
            self.assertEqual((w * w).entries, (-a * c, b, -a))
            self.assertEqual((t * t).entries, (-b * d, d, -c))

    def test_elements(self):
        ring = Ring(CUBIC)
        self.assertEqual([value.entries for value in (ring.one(), ring.w(), ring.t())],
                         [(1, 0, 0), (0, 1, 0), (0, 0, 1)])
        for value in (ring.one(), ring.element((1, 2, 3))):
            self.assertIs(type(value), Element)
            self.assertEqual((value.ring, value.bottom), (ring, 1))

    def test_equality(self):
        ring = Ring(CUBIC)
        self.assertIs(ring == Ring(Form((1, 1, 2, 1))), True)
        self.assertIs(ring != Ring(Form((1, 1, 2, 1))), False)
        for value in (CUBIC, Ring(-CUBIC), Ring(ROUND), None, True, "ring of (1, 1, 2, 1)", (1, 1, 2, 1), {}, ring.one()):
            self.assertIs(ring == value, False)
            self.assertIs(ring != value, True)
            self.assertIs(value == ring, False)

    def test_forms_with_longer_coefficients(self):
        form = Form((LONGEST, 1, 2, LONGEST)).times(LONGEST)
        ring = Ring(form)
        self.assertEqual(ring.form, form)
        self.assertEqual((ring.w() * ring.t()).entries, (-LONGEST ** 4, 0, 0))
        self.assertEqual(index_of(ring.w()), LONGEST ** 2)

    def test_the_methods_are_its_own(self):
        for name in ("one", "w", "t", "element", "__eq__", "__str__"):
            self.assertIn(name, vars(Ring))
        self.is_not_iterated(Ring(CUBIC))

    def test_wrong_forms(self):
        for value in no_objects(Form):
            self.refuses(InvalidForm, {}, Ring, value)

    def test_wrong_elements(self):
        ring = Ring(CUBIC)
        for value in no_rows(3):
            self.refuses(InvalidElement, {}, ring.element, value)
            self.refuses(InvalidElement, {}, ring.element, value, 0)
        for value in (0,) + NO_INTEGERS:
            self.refuses_number(InvalidNumber, value, ring.element, (1, 2, 3), value)
        self.assertEqual(ring.element((LONGEST, 0, 1), -LONGEST).entries, (-LONGEST, 0, -1))

    def test_operands_of_another_kind(self):
        ring = Ring(CUBIC)
        for value in (ring, 1, None, (1,), "1") + OBJECTS:
            for call in (lambda: ring + value, lambda: ring * value, lambda: ring - value, lambda: -ring):
                with self.assertRaises(TypeError):
                    call()


class TraceTables(Refusals, unittest.TestCase):
    """[3.4]"""

    def test_traces_and_discriminant(self):
        for row in ROWS:
            ring = Ring(Form(row))
            table = trace_table(ring)
            parts = (ring.one(), ring.w(), ring.t())
            for i, j in itertools.product(range(3), repeat=2):
                self.assertEqual((parts[i] * parts[j]).trace, (table[i][j], 1))
            self.assertEqual(determinant_of_three(table), ring.discriminant)
            self.assertTrue(isinstance(table, tuple) and all(isinstance(line, tuple) for line in table))

    def test_wrong_ones(self):
        for value in no_objects(Ring):
            self.refuses(InvalidRing, {}, trace_table, value)


class Tables(Refusals, unittest.TestCase):
    """[3.5], [3.6]"""

    def test_rings_and_shifts(self):
        source = numbers(53)
        for row in ROWS:
            form = Form(row)
            for size in (0, 5, 10 ** 9):
                shifts = (source.randint(-size, size), source.randint(-size, size))
                table = table_by(form, IDLE, shifts)
                self.assertIs(is_right_table(table), True)
                if max(abs(number) for line in table for number in line) < LONG:
                    told = ring_by_table(table)
                    self.assertEqual(told, (Ring(form), shifts))
                    self.assertIs(type(told), tuple)

    def test_other_bases_tell_led_forms(self):
        source = numbers(54)
        for row in ROWS[:30]:
            for change in some_changes(55, 5):
                table = table_by(Form(row), change, (source.randint(-9, 9), source.randint(-9, 9)))
                self.assertIs(is_right_table(table), True)
                self.assertEqual(ring_by_table(table)[0], Ring(Form(row).led(change)))

    def test_all_tables_of_some_kinds(self):
        seen = {"w": 0, "t": 0, None: 0}
        source = numbers(56)
        for _ in range(4000):
            size = source.choice((1, 1, 2, 3))
            table = tuple(tuple(source.randint(-size, size) * source.choice((0, 1)) for _ in range(3)) for _ in range(3))
            broken = first_broken(table)
            seen[broken] += 1
            self.assertIs(is_right_table(table), broken is None)
            if broken is None:
                ring, (m, k) = ring_by_table(table)
                self.assertEqual(table_by(ring.form, IDLE, (m, k)), table)
            else:
                self.refuses(Refused, {"reason": ("bracket", broken)}, ring_by_table, table)
        self.assertTrue(all(many > 20 for many in seen.values()), seen)

    def test_the_letters(self):
        for table, letter in ((((1, 0, 0), (0, 0, 1), (1, 0, 0)), "t"), (((1, 0, 0), (0, 1, 0), (1, 0, 0)), "w"),
                              (((1, 0, 0), (1, 1, 1), (1, 0, 0)), "w")):
            self.refuses(Refused, {"reason": ("bracket", letter)}, ring_by_table, table)

    def test_longer_integers(self):
        table = table_by(Form((LONGEST, 1, 2, LONGEST)), IDLE, (LONGEST, -LONGEST))
        self.assertIs(is_right_table(table), True)
        self.refuses(InvalidRing, {}, ring_by_table, table)
        (u, x, y), middle, last = table
        self.assertIs(is_right_table(((u + 1, x, y), middle, last)), False)
        self.assertIs(is_right_table(((10 ** 5000, 0, 0), (0, 0, 0), (0, 0, 0))), False)
        self.assertIs(is_right_table(((0, 10 ** 5000, 0), (0, 0, 0), (0, 0, 0))), True)
        most = ((0, LONGEST, 0), (0, 0, 0), (0, 0, 0))
        self.assertEqual(ring_by_table(most), (Ring(Form((0, LONGEST, 0, 0))), (0, 0)))

    def test_coefficients_of_more_digits_than_the_table(self):
        ring, shifts = ring_by_table(((LONGEST, LONGEST - 1, 0), (0, 0, -1), (0, 0, 0)))
        self.assertEqual((ring.form.coefficients, shifts), ((0, LONG, 0, 0), (-1, 0)))
        self.assertEqual((ring.w() * ring.w()).entries, (0, LONG, 0))

    def test_wrong_ones(self):
        for value in NO_TABLES:
            self.refuses(InvalidRing, {}, ring_by_table, value)
            self.assertIs(is_right_table(value), False)
        for at in range(3):
            for value in NO_INTEGERS:
                row = tuple(value if i == at else 0 for i in range(3))
                for table in ((row, ZEROS[0], ZEROS[0]), (ZEROS[0], row, ZEROS[0]), (ZEROS[0], ZEROS[0], row)):
                    self.refuses(InvalidRing, {}, ring_by_table, table)
                    if not isinstance(value, int) or isinstance(value, bool):
                        self.assertIs(is_right_table(table), False)

    def test_a_wrong_table_comes_ahead_of_its_rules(self):
        self.refuses(InvalidRing, {}, ring_by_table, ((1, 0, 0), (0, 0, 1), (1, 0, LONG)))
        self.refuses(InvalidRing, {}, ring_by_table, ((1, 0, 0), (0, True, 0), (1, 0, 0)))


class Indices(Refusals, unittest.TestCase):
    """[3.3], [0.13]"""

    def test_the_form_tells_it(self):
        source = numbers(57)
        for row in ROWS:
            for size in (4, LONGEST):
                u, x, y = [source.randint(-size, size) for _ in range(3)]
                z = Ring(Form(row)).element((u, x, y))
                self.assertEqual(index_of(z), abs(Form(row)(x, y)))
                square = z * z
                rows = ((1, 0, 0), z.entries, square.entries)
                self.assertEqual(determinant_of_three(rows), -Form(row)(x, y))

    def test_what_does_not_span(self):
        self.assertEqual([index_of(Ring(PLAIN).w()), index_of(Ring(CUBIC).one()), index_of(Ring(NOTHING).w())], [0, 0, 0])

    def test_a_product_with_longer_integers(self):
        ring = Ring(CUBIC)
        z = ring.element((LONGEST, LONGEST, 1 - LONGEST))
        _, x, y = (z * z).entries
        self.assertEqual(index_of(z * z), abs(x ** 3 + x * x * y + 2 * x * y * y + y ** 3))
        self.assertGreater(abs(x), LONG)

    def test_wrong_ones(self):
        for value in no_objects(Element):
            self.refuses(InvalidElement, {}, index_of, value)
        ring = Ring(CUBIC)
        for value in (ring.element((1, 2, 3), 2), ring.element((0, 1, 0), -3), ring.element((1, 0, 0), 2)):
            self.refuses(InvalidOperation, {}, index_of, value)
        self.assertEqual(index_of(ring.element((2, 4, 6), 2)), index_of(ring.element((1, 2, 3))))

    def test_what_is_not_true(self):
        """[3.7]: rings that no element makes; the index of a square."""
        even = Form((0, 1, 1, 2))
        self.assertTrue(all(even(x, y) % 2 == 0 for x in range(9) for y in range(9)))
        w = Ring(CUBIC).w()
        self.assertEqual((index_of(w), index_of(w * w)), (1, 1))
        z = Ring(ROOT).element((0, 1, 1))
        self.assertEqual((index_of(z), index_of(z * z)), (1, 6))


if __name__ == "__main__":
    unittest.main()
