import itertools
import math
import unittest

from formrings.base import lattices
from formrings.base.lattices import is_inside, lattice_index, least_rows
from formrings.errors import InvalidOperation, Refused
from tests.helper import LONG, LONGEST, NO_INTEGERS, NO_TUPLES, OBJECTS, Refusals, nested, numbers, rows_of

FLAT = ((2, 0, 0), (1, 1, 1), (0, 2, 2))
NO_ROWS = NO_TUPLES + (
    (), (1, 2), ((1,), (2,)), ((1, 2, 3, 4),) * 4, ((1, 0), (0, 1, 0)), ((1, 0, 0), (0, 1)), ((1, 0), [0, 1]),
    ([1, 0], (0, 1)), ((), ()), ((1, 0), None), (None, (1, 0)), ("10", "01"), nested(8), ((1, 0),) * 65,
    ((1, 0, 0), (0, 1, 0), (0, 0, 1), (1, 1)),
) + tuple(((1, value), (0, 1)) for value in NO_INTEGERS) + tuple(((1, 0), (0, value)) for value in NO_INTEGERS)


def determinant(rows):
    if len(rows) == 1:
        return rows[0][0]
    return sum((-1) ** at * number * determinant([row[:at] + row[at + 1:] for row in rows[1:]])
               for at, number in enumerate(rows[0]))


def index_by_minors(rows):
    """The greatest common divisor of all determinants, which is the index."""
    return math.gcd(*[determinant(chosen) for chosen in itertools.combinations(rows, len(rows[0]))])


def mixed(rows, source):
    """Other rows of the same lattice."""
    found = [list(row) for row in rows]
    for _ in range(20):
        one, other, k = source.randrange(len(found)), source.randrange(len(found)), source.randint(-3, 3)
        if one == other:
            found[one] = [-number for number in found[one]]
        else:
            found[one] = [a + k * b for a, b in zip(found[one], found[other])]
    source.shuffle(found)
    return tuple(tuple(row) for row in found)


class Examples(Refusals, unittest.TestCase):
    def test_constant(self):
        self.assertEqual(lattices.MAX_ROWS, 64)

    def test_lines(self):
        self.assertEqual(
            [least_rows(((4, 1), (2, 3), (0, 10))), lattice_index(((4, 1), (2, 3), (0, 10))),
             is_inside(((4, 1), (2, 3)), (6, 4)), is_inside(((4, 1), (2, 3)), (2, 2))],
            [((2, 3), (0, 5)), 10, True, False])

    def test_the_rank(self):
        self.refuses(Refused, {"reason": ("rank",)}, least_rows, FLAT)


class PlainRows(unittest.TestCase):
    """[1.4]"""

    def check_plain(self, rows):
        plain = least_rows(rows)
        wide = len(rows[0])
        self.assertEqual([len(plain)] + [len(row) for row in plain], [wide] * (wide + 1))
        for at, row in enumerate(plain):
            self.assertFalse(any(row[:at]))
            self.assertGreater(row[at], 0)
            for ahead in plain[:at]:
                self.assertTrue(0 <= ahead[at] < row[at])
        # Both lattices have the index of their sum, so they are this sum.
        self.assertEqual(lattice_index(rows), math.prod(row[at] for at, row in enumerate(plain)))
        self.assertEqual(lattice_index(rows), index_by_minors(rows))
        self.assertEqual(lattice_index(rows), index_by_minors(rows + plain))
        return plain

    def test_small_and_great_rows(self):
        for wide in (2, 3):
            for size in (1, 3, 12, 10 ** 6, LONGEST):
                for many in (wide, wide + 1, 6):
                    for seed in range(12):
                        rows = tuple(rows_of(seed, many, wide, size))
                        if index_by_minors(rows):
                            self.check_plain(rows)

    def test_mixed_rows_have_the_same_ones(self):
        source = numbers(11)
        for wide in (2, 3):
            for rows in [tuple(rows_of(seed, wide + 1, wide, 9)) for seed in range(40)]:
                if index_by_minors(rows):
                    self.assertEqual(least_rows(mixed(rows, source)), least_rows(rows))
                    self.assertEqual(least_rows(least_rows(rows)), least_rows(rows))

    def test_how_many_rows(self):
        rows = tuple(rows_of(5, 64, 3, LONGEST))
        self.assertEqual(least_rows(rows), ((1, 0, 0), (0, 1, 0), (0, 0, 1)))
        self.assertEqual(least_rows(((6, 0), (0, 4)) * 32), ((6, 0), (0, 4)))
        self.check_plain(tuple((2 * a, 3 * b, 5 * c) for a, b, c in rows_of(6, 8, 3, 40)))

    def test_sixty_digits(self):
        self.assertEqual(least_rows(((LONGEST, 0), (0, -LONGEST))), ((LONGEST, 0), (0, LONGEST)))
        self.assertEqual(lattice_index(((LONGEST, 1), (1, LONGEST))), LONGEST ** 2 - 1)
        self.assertEqual(least_rows(((-1, 0, 0), (0, -1, 0), (5, 7, -LONGEST))), ((1, 0, 0), (0, 1, 0), (0, 0, LONGEST)))

    def test_zeros_in_the_first_columns(self):
        self.assertEqual(least_rows(((0, 0, 5), (0, 3, 1), (2, 7, 9))), ((2, 1, 2), (0, 3, 1), (0, 0, 5)))
        self.assertEqual(least_rows(((0, 0), (0, 2), (3, -1), (0, 0))), ((3, 1), (0, 2)))

    def test_the_index_counts_classes(self):
        for rows in (((2, 1), (0, 3)), ((4, 2), (2, 4)), ((3, 0), (1, 1))):
            side = lattice_index(rows)
            classes = []
            for row in itertools.product(range(side), repeat=2):
                if not any(is_inside(rows, tuple(a - b for a, b in zip(row, other))) for other in classes):
                    classes.append(row)
            self.assertEqual(len(classes), side)

    def test_what_is_not_true(self):
        """[1.5]"""
        one, other = ((1, 0), (0, 2)), ((2, 0), (0, 1))
        self.assertEqual(lattice_index(one), lattice_index(other))
        self.assertNotEqual(least_rows(one), least_rows(other))


class Inside(Refusals, unittest.TestCase):
    """[1.4]"""

    def test_sums_of_multiples(self):
        source = numbers(12)
        for wide in (2, 3):
            for rows in [tuple(rows_of(seed, wide + 1, wide, 8)) for seed in range(40)]:
                if not index_by_minors(rows):
                    continue
                factors = [source.randint(-9, 9) for _ in rows]
                row = tuple(sum(k * line[at] for k, line in zip(factors, rows)) for at in range(wide))
                self.assertIs(is_inside(rows, row), True)
                self.assertIs(is_inside(rows, (0,) * wide), True)

    def test_by_the_index_with_the_row(self):
        for rows, row in zip([tuple(rows_of(seed, 3, 3, 6)) for seed in range(60)], rows_of(13, 60, 3, 6)):
            if index_by_minors(rows):
                self.assertIs(is_inside(rows, row), lattice_index(rows + (row,)) == lattice_index(rows))

    def test_sixty_digits(self):
        self.assertIs(is_inside(((LONGEST, 0), (0, LONGEST)), (-LONGEST, LONGEST)), True)
        self.assertIs(is_inside(((LONGEST, 0), (0, LONGEST)), (LONGEST - 1, LONGEST)), False)


class Wrong(Refusals, unittest.TestCase):
    def test_rows(self):
        for value in NO_ROWS:
            self.refuses(InvalidOperation, {}, least_rows, value)
            self.refuses(InvalidOperation, {}, lattice_index, value)
            self.refuses(InvalidOperation, {}, is_inside, value, (1, 0))
            self.refuses(InvalidOperation, {}, is_inside, value, None)

    def test_a_row(self):
        for value in NO_TUPLES + ((), (1,), (1, 2, 3), [1, 2], ((1, 2),)):
            self.refuses(InvalidOperation, {}, is_inside, ((1, 0), (0, 1)), value)
        for value in NO_INTEGERS:
            self.refuses(InvalidOperation, {}, is_inside, ((1, 0), (0, 1)), (1, value))
        self.refuses(InvalidOperation, {}, is_inside, ((1, 0, 0), (0, 1, 0), (0, 0, 1)), (1, 2))

    def test_no_rank(self):
        flat = (FLAT, ((1, 2),), ((0, 0),), ((0, 0, 0),) * 64, ((1, 0, 0), (0, 1, 0)), ((2, 4), (3, 6), (-1, -2)),
                ((LONGEST, LONGEST), (1, 1)), ((0, 1), (0, 2)), ((0, 1, 0), (0, 0, 1), (0, 3, 3)))
        for rows in flat:
            self.refuses(Refused, {"reason": ("rank",)}, least_rows, rows)
            self.refuses(Refused, {"reason": ("rank",)}, lattice_index, rows)
            self.refuses(Refused, {"reason": ("rank",)}, is_inside, rows, rows[0])

    def test_the_sequence_of_errors(self):
        for value in (None, (1, 2), (1, 2, None), (1, 2, LONG), (True, 0, 0)) + OBJECTS:
            self.refuses(InvalidOperation, {}, is_inside, FLAT, value)


if __name__ == "__main__":
    unittest.main()
