import itertools
import unittest

from formrings.above.steps import is_greatest
from formrings.base.changes import changes_to, joined
from formrings.box.boxes import Box, box_of, is_balanced, is_pair_of, pair_of
from formrings.errors import InvalidBox, InvalidChange, InvalidIdeal, InvalidOperation, Refused
from formrings.form.forms import Form
from formrings.ideal.ideals import Ideal, dual, inverse_of, is_undone, made_by, quotient, whole
from formrings.ideal.primes import ideals_of, primes_over
from formrings.ring.rings import Ring
from tests.helper import (
    CUBIC, IDLE, LONG, LONG_CHANGES, LONGEST, NO_CHANGES, NO_INTEGERS, NO_TUPLES, NOTHING, OBJECTS, PLAIN, ROOT, ROUND,
    Refusals, determinant, nested, no_objects, numbers, some_changes)

BOX = Box(((0, 0, 1), (0, -1, 0), (1, 0, -2)), ((0, 1, 0), (1, 1, 0), (0, 0, 1)))
ONE = ((1, 0, 0), (0, 1, 0), (0, 0, 1))
TURN = ((0, 1, 0), (1, 0, 0), (0, 0, 1))
FORMS = [CUBIC, ROUND, PLAIN, ROOT, Form((2, 4, 6, 8)), Form((0, 2, 2, 0)), Form((4, 2, 1, 1)), Form((3, 5, 7, 6)),
         Form((2, 0, 0, 3)), Form((0, 1, 0, -2)), Form((3, 0, 3, 6)), Form((1, 0, 0, -10))]
MOST = 10 ** 10 - 1


def determinant_of(table):
    """By all sequences of the columns."""
    total = 0
    for at in itertools.permutations(range(3)):
        sign = 1
        for i, j in itertools.combinations(range(3), 2):
            sign = -sign if at[i] > at[j] else sign
        total += sign * table[0][at[0]] * table[1][at[1]] * table[2][at[2]]
    return total


def times(first, second):
    return tuple(tuple(sum(first[i][k] * second[k][j] for k in range(3)) for j in range(3)) for i in range(3))


def plus(*tables):
    return tuple(tuple(sum(table[i][j] for table in tables) for j in range(3)) for i in range(3))


def scaled(number, table=ONE):
    return tuple(tuple(number * entry for entry in row) for row in table)


def adjoined(table):
    """The table of the minors, each with its sign, with rows and columns exchanged."""
    def minor(i, j):
        rows = [[entry for at, entry in enumerate(row) if at != j] for k, row in enumerate(table) if k != i]
        return rows[0][0] * rows[1][1] - rows[0][1] * rows[1][0]
    return tuple(tuple((-1) ** (i + j) * minor(j, i) for j in range(3)) for i in range(3))


def values_of(box, x, y):
    return determinant_of(plus(scaled(x, box.first), scaled(-y, box.second)))


def some_tables(seed, many, size):
    source = numbers(seed)
    return [tuple(tuple(source.randint(-size, size) for _ in range(3)) for _ in range(3)) for _ in range(many)]


def some_boxes(seed, many, size):
    tables = some_tables(seed, 2 * many, size)
    return [Box(first, second) for first, second in zip(tables[::2], tables[1::2])]


def even_tables(seed, many, steps=6):
    """Tables with both determinants, by adding rows to others, exchanging them, and taking opposites."""
    source = numbers(seed)
    found = []
    for _ in range(many):
        rows = [list(row) for row in ONE]
        for _ in range(steps):
            i, j = source.sample(range(3), 2)
            number = source.randint(-3, 3)
            rows[i] = [one + number * other for one, other in zip(rows[i], rows[j])]
            if source.random() < 0.3:
                rows[i], rows[j] = rows[j], rows[i]
            if source.random() < 0.3:
                rows[i] = [-one for one in rows[i]]
        found.append(tuple(tuple(row) for row in rows))
    return found


def some_ideals(form):
    """Ideals of the ring: whole ones, over primes, their products, undone ones, duals and stretched ones."""
    ring = Ring(form)
    found = [whole(ring), made_by(ring, (ring.element((1, 2, -1)), ring.one().scaled(6)))]
    for prime in (2, 3, 5):
        found += [ideal for ideal, _ in primes_over(ring, prime)]
    found += [found[2] * found[3], found[2] * found[2], dual(whole(ring))]
    found += [ideal.stretched(ring.one().scaled(1, 6)) for ideal in found[2:4]]
    return found


class Examples(unittest.TestCase):
    def test_lines(self):
        self.assertEqual(
            [BOX.form == CUBIC, BOX.row_actions()[0], BOX.row_actions()[1], BOX.exchanged() == BOX],
            [True, ((0, 1, 0), (-2, 1, -1), (-1, 0, 0)), ((0, 0, 1), (-1, 0, 0), (-1, 1, -2)), True])
        ring = Ring(CUBIC)
        self.assertEqual(
            [box_of(whole(ring), whole(ring)) == BOX, is_balanced(whole(ring), whole(ring)),
             str(BOX.turned(((0, 1), (1, 0))).form)], [True, True, '(-1, -2, -1, -1)'])
        self.assertEqual(
            [BOX.moved(TURN, ONE).form == -CUBIC, BOX.moved(TURN, TURN).form == CUBIC,
             is_pair_of(BOX, (whole(ring), whole(ring), ONE, ONE)), str(BOX)],
            [True, True, True, '0 0 1/0 -1 0/1 0 -2 and 0 1 0/1 1 0/0 0 1'])
        self.assertEqual(Box(ONE, TURN).form.coefficients, (1, -1, -1, 1))


class Boxes(Refusals, unittest.TestCase):
    """[16.1], [0.2]"""

    def test_forms(self):
        great = [Box(first, second) for first, second in
                 itertools.permutations(some_tables(161, 4, LONGEST) + [scaled(LONGEST)], 2)]
        for box in some_boxes(162, 60, 4) + some_boxes(163, 20, MOST) + great:
            form = box.form
            self.assertIs(type(form), Form)
            a, b, c, d = form.coefficients
            for x, y in ((1, 0), (0, 1), (1, 1), (1, -1), (2, 1), (-3, 5)):
                self.assertEqual(a * x ** 3 + b * x * x * y + c * x * y * y + d * y ** 3, values_of(box, x, y))

    def test_properties(self):
        for box in some_boxes(164, 10, 9):
            self.assertEqual(Box(box.first, box.second), box)
            self.keeps(box, ("first", "second", "form"))
            self.assertEqual(box.form, box.form)
            self.is_not_iterated(box)
            for name in ("first", "second", "form", "row_actions", "column_actions", "moved", "turned", "exchanged",
                         "__eq__", "__str__"):
                self.assertIn(name, vars(Box))

    def test_equality(self):
        self.assertEqual(BOX, Box(BOX.first, BOX.second))
        self.assertFalse(BOX != Box(BOX.first, BOX.second))
        for other in (Box(BOX.second, BOX.first), Box(BOX.first, ONE), Box(ONE, BOX.second), (BOX.first, BOX.second),
                      str(BOX), None, True, [], {}, nested(8)) + OBJECTS:
            self.assertFalse(BOX == other)
            self.assertTrue(BOX != other)

    def test_texts(self):
        self.assertEqual(str(Box(((-1, 2, 30), (0, 0, 0), (5, -6, 7)), ONE)),
                         "-1 2 30/0 0 0/5 -6 7 and 1 0 0/0 1 0/0 0 1")
        for box in some_boxes(165, 5, LONGEST):
            parts = [tuple(tuple(map(int, row.split(" "))) for row in part.split("/")) for part in str(box).split(" and ")]
            self.assertEqual(parts, [box.first, box.second])

    def test_wrong_tables(self):
        row = (1, 2, 3)
        wrong = [(), ONE[:2], ONE + ONE, list(ONE), (list(row), row, row), (row, row, (1, 2)), (row, row, row + (4,)),
                 ONE[0] + ONE[1] + ONE[2], (row, row, None), (row, "123", row), ((row,), row, row), {1: row}, BOX]
        for value in NO_INTEGERS:
            for at in range(9):
                entries = [1] * 9
                entries[at] = value
                wrong.append(tuple(tuple(entries[3 * i:3 * i + 3]) for i in range(3)))
        for value in wrong + list(NO_TUPLES):
            self.refuses(InvalidBox, {}, Box, value, ONE)
            self.refuses(InvalidBox, {}, Box, ONE, value)
            self.refuses(InvalidOperation, {}, BOX.moved, value, ONE)
            self.refuses(InvalidOperation, {}, BOX.moved, ONE, value)


class Actions(unittest.TestCase):
    """[16.2]"""

    def test_rules(self):
        for box in some_boxes(166, 50, 3) + some_boxes(167, 10, MOST) + [BOX, Box(ONE, ONE), Box(ONE, scaled(0))]:
            a, b, c, d = box.form.coefficients
            first, second = box.first, box.second
            w, t = box.row_actions()
            self.assertEqual(w, scaled(-1, times(second, adjoined(first))))
            self.assertEqual(t, scaled(-1, times(first, adjoined(second))))
            self.assertEqual((times(w, first), times(t, second)), (scaled(-a, second), scaled(d, first)))
            moved_w, moved_t = box.column_actions()
            self.assertEqual(moved_w, scaled(-1, times(adjoined(first), second)))
            self.assertEqual(moved_t, scaled(-1, times(adjoined(second), first)))
            for one, other in ((w, t), (moved_w, moved_t)):
                self.assertEqual(times(one, other), scaled(-a * d))
                self.assertEqual(times(other, one), scaled(-a * d))
                self.assertEqual(times(one, one), plus(scaled(-a * c), scaled(b, one), scaled(-a, other)))
                self.assertEqual(times(other, other), plus(scaled(-b * d), scaled(d, one), scaled(-c, other)))

    def test_rows_of_ideals(self):
        # The rows of the box are the plain basis of the first ideal, and its columns that of the second one.
        for form in FORMS:
            ring = Ring(form)
            for one in some_ideals(form):
                other = quotient(whole(ring), one)
                box = box_of(one, other)
                if box.form != form:
                    continue
                for ideal, actions, by_rows in ((one, box.row_actions(), True), (other, box.column_actions(), False)):
                    basis = [ring.element(row, ideal.bottom) for row in ideal.rows]
                    for element, table in zip((ring.w(), ring.t()), actions):
                        for i in range(3):
                            entries = table[i] if by_rows else [table[k][i] for k in range(3)]
                            total = sum((base.scaled(entry) for base, entry in zip(basis[1:], entries[1:])),
                                        basis[0].scaled(entries[0]))
                            self.assertEqual(element * basis[i], total)


class Moves(Refusals, unittest.TestCase):
    """[16.3]"""

    def test_moved(self):
        tables = even_tables(168, 12) + [ONE, TURN, scaled(-1)]
        self.assertEqual({determinant_of(table) for table in tables}, {1, -1})
        for box in some_boxes(169, 6, 4) + [BOX]:
            for rows, columns in itertools.product(tables, repeat=2):
                moved = box.moved(rows, columns)
                self.assertIs(type(moved), Box)
                self.assertEqual(moved.first, times(times(rows, box.first), columns))
                self.assertEqual(moved.second, times(times(rows, box.second), columns))
                e = determinant_of(rows) * determinant_of(columns)
                self.assertEqual(moved.form, box.form.times(e))

    def test_tables_that_are_not_even(self):
        for table in some_tables(170, 40, 3) + [scaled(2), scaled(0), ((1, 0, 0), (0, 1, 0), (1, 1, 0))]:
            if determinant_of(table) not in (1, -1):
                self.refuses(InvalidOperation, {}, BOX.moved, table, ONE)
                self.refuses(InvalidOperation, {}, BOX.moved, ONE, table)
                self.refuses(InvalidOperation, {}, BOX.moved, table, None)
        self.refuses(InvalidOperation, {}, BOX.moved, ((1, LONG, 0), (0, 1, 0), (0, 0, 1)), ONE)
        long = BOX.moved(((1, LONGEST, 0), (0, 1, 0), (0, 0, 1)), ONE)
        self.assertEqual(long.form, CUBIC)
        self.assertEqual(long.moved(((1, LONGEST, 0), (0, 1, 0), (0, 0, 1)), TURN).form, -CUBIC)

    def test_turned(self):
        for box in some_boxes(171, 8, 4) + [BOX]:
            for change in some_changes(172, 25) + [((1, LONGEST), (0, 1))]:
                (p, q), (r, s) = change
                e = determinant(change)
                turned = box.turned(change)
                self.assertEqual(turned.first, plus(scaled(e * p, box.first), scaled(-e * q, box.second)))
                self.assertEqual(turned.second, plus(scaled(e * s, box.second), scaled(-e * r, box.first)))
                self.assertEqual(turned.form, box.form.led(change))

    def test_turned_one_behind_the_other(self):
        for first, second in itertools.product(list(changes_to(1))[::5], repeat=2):
            self.assertEqual(BOX.turned(first).turned(second), BOX.turned(joined(first, second)))

    def test_no_changes(self):
        for value in NO_CHANGES + LONG_CHANGES:
            if value != IDLE:
                self.refuses(InvalidChange, {}, BOX.turned, value)
        self.assertEqual(BOX.turned(IDLE), BOX)

    def test_exchanged(self):
        for box in some_boxes(173, 20, 5):
            other = box.exchanged()
            self.assertEqual((other.first, other.second), (tuple(zip(*box.first)), tuple(zip(*box.second))))
            self.assertEqual((other.form, other.exchanged()), (box.form, box))


class OfIdeals(Refusals, unittest.TestCase):
    """[16.4]"""

    def test_products_of_the_plain_bases(self):
        for form in FORMS:
            ring = Ring(form)
            for one, other in itertools.product(some_ideals(form), repeat=2):
                product = one * other
                if not all(ring.element(row, product.bottom).is_whole for row in product.rows):
                    self.assertIs(is_balanced(one, other), False)
                    self.refuses(Refused, {"reason": ("outside",)}, box_of, one, other)
                    continue
                box = box_of(one, other)
                for i, j in itertools.product(range(3), repeat=2):
                    moved = ring.element(one.rows[i], one.bottom) * ring.element(other.rows[j], other.bottom)
                    self.assertEqual(moved.entries[1:], (box.second[i][j], box.first[i][j]))
                (i, j), (k, m) = one.norm, other.norm
                self.assertEqual(box.form.times(j * m), form.times(i * k))
                self.assertIs(is_balanced(one, other), i * k == j * m)
                if i * k == j * m:
                    self.assertEqual(box.form, form)

    def test_undone_ones_are_balanced(self):
        for form in FORMS:
            for ideal in some_ideals(form):
                if is_undone(ideal):
                    self.assertIs(is_balanced(ideal, inverse_of(ideal)), True)
                    self.assertIs(is_balanced(inverse_of(ideal), ideal), True)

    def test_balanced_without_the_ring_as_product(self):
        ring = Ring(Form((0, 2, 2, 0)))
        found = 0
        for one in [ideal for norm in (1, 2, 4) for ideal in ideals_of(ring, norm)]:
            for other in [ideal.stretched(ring.one().scaled(1, 2)) for ideal in ideals_of(ring, 8 // one.norm[0])]:
                if is_balanced(one, other):
                    found += one * other != whole(ring)
                    self.assertEqual(one * other == whole(ring), is_undone(one))
                    self.assertEqual(box_of(one, other).form, ring.form)
        self.assertGreater(found, 0)

    def test_wrong_ideals(self):
        right = whole(Ring(CUBIC))
        for value in no_objects(Ideal) + [whole(Ring(ROUND)), None]:
            for call in (is_balanced, box_of):
                self.refuses(InvalidIdeal, {}, call, right, value)
                if not isinstance(value, Ideal):
                    self.refuses(InvalidIdeal, {}, call, value, right)
                    self.refuses(InvalidIdeal, {}, call, value, value)
        double = made_by(Ring(CUBIC), (Ring(CUBIC).one().scaled(1, 2),))
        self.refuses(InvalidIdeal, {}, box_of, double, whole(Ring(ROUND)))
        self.refuses(Refused, {"reason": ("outside",)}, box_of, double, right)


class Pairs(Refusals, unittest.TestCase):
    """[16.5]"""

    def check(self, box):
        one, other, rows, columns = value = pair_of(box)
        self.assertIs(type(value), tuple)
        ring = Ring(box.form)
        self.assertEqual((one.ring, other.ring), (ring, ring))
        self.assertIs(is_balanced(one, other), True)
        self.assertEqual(box.moved(rows, columns), box_of(one, other))
        self.assertTrue(all(abs(entry) < LONG for table in (rows, columns) for row in table for entry in row))
        self.assertIs(is_pair_of(box, value), True)
        self.assertEqual(one * other == whole(ring), is_undone(one))
        return one, other

    def test_drawn_boxes(self):
        many = 0
        for size in (1, 2, 3, 9, 1000):
            for box in some_boxes(174 + size, 60, size):
                if box.form.discriminant != 0:
                    many += 1
                    self.check(box)
        self.assertGreater(many, 250)

    def test_great_integers(self):
        for size in (10 ** 6, MOST):
            for box in some_boxes(175, 25, size):
                self.check(box)
        for signs in itertools.product((MOST, -MOST), repeat=9):
            rows = (signs[:3], signs[3:6], signs[6:])
            box = Box(rows, ((MOST, 1, -MOST), (2, MOST, 3), (5, -MOST, MOST)))
            if box.form.discriminant != 0:
                self.check(box)

    def test_boxes_of_ideals(self):
        tables = even_tables(176, 4)
        for form in FORMS:
            ring = Ring(form)
            for one in some_ideals(form):
                other = quotient(whole(ring), one)
                if not is_balanced(one, other):
                    continue
                box = box_of(one, other)
                self.assertIs(is_pair_of(box, (one, other, ONE, ONE)), True)
                self.check(box)
                for rows, columns in itertools.product(tables, repeat=2):
                    if determinant_of(rows) * determinant_of(columns) == 1:
                        moved = box.moved(rows, columns)
                        found, _ = self.check(moved)
                        self.assertEqual(is_undone(found), is_undone(one))
                        # The tables that take the move back.
                        back = [scaled(determinant_of(table), adjoined(table)) for table in (rows, columns)]
                        self.assertIs(is_pair_of(moved, (one, other, back[0], back[1])), True)

    def test_stretched_ones(self):
        # Ideals that are stretched by an element and by its inverse have another plain basis, and go as well.
        for form in (CUBIC, ROUND, Form((2, 4, 6, 8))):
            ring = Ring(form)
            box = box_of(whole(ring), whole(ring))
            for element in (ring.element((1, 2, -1)), ring.element((3, 0, 1), 2), ring.element((0, 1, 0))):
                one, other = whole(ring).stretched(element), whole(ring).stretched(element.inverse())
                rows = self.basis(one, element)
                columns = tuple(zip(*self.basis(other, element.inverse())))
                self.assertIs(is_pair_of(box, (one, other, rows, columns)), True)
                self.assertIs(is_pair_of(box, (one, other, rows, ONE)), columns == ONE)

    def basis(self, ideal, element):
        """The table of the plain basis of an ideal in that of the ring, multiplied by the element."""
        ring = ideal.ring
        found = [ring.element(row, ideal.bottom) * element.inverse() for row in ideal.rows]
        self.assertTrue(all(member.is_whole for member in found))
        return tuple(member.entries for member in found)

    def test_without_divisors_of_0_and_with_them(self):
        for form in (PLAIN, Form((0, 1, 0, -2)), Form((0, 1, 1, 6)), Form((0, 2, 1, 0)), Form((0, 0, 1, 0)).led(IDLE)):
            if form.discriminant != 0:
                ring = Ring(form)
                for rows, columns in itertools.product(even_tables(177, 5), repeat=2):
                    self.check(box_of(whole(ring), whole(ring)).moved(rows, columns))

    def test_diagonal_tables(self):
        for first, second in itertools.product(itertools.product((1, 2, -3), repeat=3), repeat=2):
            box = Box(tuple(tuple(n if i == j else 0 for j in range(3)) for i, n in enumerate(first)),
                      tuple(tuple(n if i == j else 0 for j in range(3)) for i, n in enumerate(second)))
            if box.form.discriminant != 0:
                self.check(box)

    def test_values_near_papers(self):
        one, other, rows, columns = value = pair_of(BOX)
        stranger = whole(Ring(ROUND))
        half = one.stretched(Ring(CUBIC).one().scaled(1, 2))
        double = other.stretched(Ring(CUBIC).one().scaled(2))
        self.assertIs(is_pair_of(BOX, (half, double, rows, columns)), True)
        wrong = [(one, other, rows), value + (ONE,), list(value), (other, rows, columns, one),
                 (one, one, rows, rows, ONE),
                 (half, other, rows, columns), (one, double, rows, columns), (double, half, rows, columns)[:3],
                 (stranger, stranger, rows, columns), (one, stranger, rows, columns), (stranger, other, rows, columns),
                 (one, other, scaled(-1, rows), columns), (one, other, rows, scaled(-1, columns)),
                 (one, other, TURN, columns), (one, other, rows, TURN), (one, other, scaled(2, rows), columns),
                 (one, other, [list(row) for row in rows], columns), (one, other, list(rows), columns),
                 (one, other, rows, tuple(map(list, columns))), (one, other, None, columns), (one, other, rows, None),
                 (one, other, ((True, 0, 0), (0, True, 0), (0, 0, True)), columns),
                 (one, other, rows, ((True, False, 0), (0, 1, 0), (0, 0, 1))),
                 (one.rows, other.rows, rows, columns), (BOX, BOX, rows, columns), (Ring(CUBIC), one, rows, columns),
                 (one, other, ((1, LONG, 0), (0, 1, 0), (0, 0, 1)), columns), (None,) * 4, nested(8), None, True, 4]
        for each in wrong + list(OBJECTS):
            self.assertIs(is_pair_of(BOX, each), False, each)
        self.assertIs(is_pair_of(BOX, (one, other, scaled(-1, rows), scaled(-1, columns))), True)

    def test_products_that_are_not_within(self):
        ring = Ring(CUBIC)
        half = whole(ring).stretched(ring.one().scaled(1, 2))
        self.assertIs(is_pair_of(BOX, (half, half, ONE, ONE)), False)
        first, second = [ideal for ideal, _ in primes_over(ring, 5)]
        # Norms that multiply to 1, and a product that is not within the ring.
        back = inverse_of(second)
        for one, other in ((first * first, back), (back, first * first)):
            self.assertEqual(one.norm[0] * other.norm[0], one.norm[1] * other.norm[1])
            self.assertIs(is_balanced(one, other), False)
            self.refuses(Refused, {"reason": ("outside",)}, box_of, one, other)
            self.assertIs(is_pair_of(BOX, (one, other, ONE, ONE)), False)

    def test_wrong_boxes(self):
        for value in no_objects(Box):
            self.refuses(InvalidBox, {}, pair_of, value)
            self.refuses(InvalidBox, {}, is_pair_of, value, None)

    def test_the_discriminant_0(self):
        for box in (Box(ONE, ONE), Box(scaled(0), scaled(0)), Box(ONE, scaled(0)), Box(scaled(0), TURN), Box(ONE, TURN),
                    Box(((1, 2, 3),) * 3, BOX.second), Box(((LONGEST, 1, 1),) * 3, ONE)):
            self.assertEqual(box.form.discriminant, 0)
            self.refuses(Refused, {"reason": ("zero",)}, pair_of, box)
            self.refuses(Refused, {"reason": ("zero",)}, is_pair_of, box, None)
        self.assertEqual(Box(scaled(0), scaled(0)).form, NOTHING)


def rank_by_2(rows):
    """How many of the rows modulo 2 stand for themselves."""
    left = [sum((entry % 2) << at for at, entry in enumerate(row)) for row in rows]
    rank = 0
    while any(left):
        top = max(left)
        rank += 1
        left = [min(row, row ^ top) for row in left]
    return rank


def diagonal(first, second, third):
    return ((first, 0, 0), (0, second, 0), (0, 0, third))


class NotTrue(unittest.TestCase):
    """[16.6]"""

    def test_two_boxes_with_one_form(self):
        one = Box(diagonal(1, 1, 4), diagonal(1, 2, 12))
        other = Box(diagonal(2, 2, 1), diagonal(2, 4, 3))
        self.assertEqual(one.form, other.form)
        self.assertNotEqual(one.form.discriminant, 0)
        # Even tables keep the rank of a table modulo 2.
        for rows, columns in itertools.product(even_tables(181, 6), repeat=2):
            self.assertEqual(rank_by_2(one.moved(rows, columns).first), 2)
            self.assertEqual(rank_by_2(other.moved(rows, columns).first), 1)
        self.assertIs(is_undone(pair_of(one)[0]), False)

    def test_rows_and_columns_exchanged(self):
        box = Box(((1, 0, 0), (0, 2, 0), (0, 0, 2)), ((0, 1, 0), (4, 0, 2), (2, 6, 2)))
        self.assertNotEqual(box.form.discriminant, 0)
        # Even tables keep the rank of all rows of both tables modulo 2.
        for rows, columns in itertools.product(even_tables(182, 6), repeat=2):
            moved, other = box.moved(rows, columns), box.exchanged().moved(rows, columns)
            self.assertEqual(rank_by_2(moved.first + moved.second), 2)
            self.assertEqual(rank_by_2(other.first + other.second), 1)

    def test_balanced_with_another_product(self):
        ring = Ring(Form((0, 2, 2, 0)))
        half = ring.one().scaled(1, 2)
        pairs = [(one, other.stretched(half)) for one in ideals_of(ring, 2) for other in ideals_of(ring, 4)]
        balanced = [pair for pair in pairs if is_balanced(pair[0], pair[1])]
        self.assertTrue(any(one * other != whole(ring) for one, other in balanced))

    def test_tables_that_are_not_symmetric(self):
        cycle = ((0, 1, 0), (0, 0, 1), (1, 0, 0))
        box = BOX.moved(cycle, ONE)
        self.assertEqual((box.form, is_greatest(box.form), BOX.exchanged()), (CUBIC, True, BOX))
        self.assertNotEqual(box.exchanged().first, box.first)
        self.assertNotEqual(box.exchanged().second, box.second)


if __name__ == "__main__":
    unittest.main()
