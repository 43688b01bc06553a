import inspect
import itertools
import unittest

from formrings.base import changes
from formrings.base.changes import IDLE, changes_to, is_change, joined, undone
from formrings.errors import InvalidChange, InvalidNumber
from tests.helper import (
    LONG, LONG_CHANGES, LONGEST, NO_CHANGES, NO_INTEGERS, Refusals, determinant, some_changes)


class Examples(unittest.TestCase):
    def test_constants(self):
        self.assertEqual((changes.IDLE, changes.MAX_SPAN), (((1, 0), (0, 1)), 4))

    def test_lines(self):
        self.assertEqual([is_change(((1, 1), (1, 1))), undone(((2, 1), (1, 1)))], [False, ((1, -1), (-1, 2))])
        self.assertEqual(
            [joined(((1, 1), (0, 1)), ((0, 1), (-1, 0))), len(list(changes_to(1))), next(changes_to(1)),
             joined(((2, 1), (1, 1)), undone(((2, 1), (1, 1)))) == IDLE],
            [((0, 1), (-1, -1)), 40, ((-1, -1), (-1, 0)), True])


class IsChange(unittest.TestCase):
    """[1.2], [0.5], [0.10]"""

    def test_both_determinants(self):
        for value in (IDLE, ((0, 1), (1, 0)), ((-1, 0), (0, -1)), ((2, 1), (1, 1)), ((1, 7), (0, -1))):
            self.assertIs(is_change(value), True)

    def test_integers_of_any_length(self):
        self.assertIs(is_change(((1, LONG), (0, 1))), True)
        self.assertIs(is_change(((10 ** 5000, 1), (-1, 0))), True)
        self.assertIs(is_change(((10 ** 5000, 1), (1, 1))), False)

    def test_others(self):
        for value in NO_CHANGES:
            self.assertIs(is_change(value), False, value)
        for value in NO_INTEGERS:
            if not isinstance(value, int) or isinstance(value, bool):
                self.assertIs(is_change(((1, value), (0, 1))), False)


class JoinedAndUndone(Refusals, unittest.TestCase):
    """[1.2], [1.3]"""

    def test_by_the_words(self):
        for (p, q), (r, s) in some_changes(2, 15):
            for (i, j), (k, m) in some_changes(3, 15):
                self.assertEqual(joined(((p, q), (r, s)), ((i, j), (k, m))),
                                 ((i * p + j * r, i * q + j * s), (k * p + m * r, k * q + m * s)))

    def test_brackets(self):
        for one, two, three in zip(some_changes(4, 50), some_changes(5, 50), some_changes(6, 50)):
            self.assertEqual(joined(joined(one, two), three), joined(one, joined(two, three)))

    def test_undone_ones(self):
        for change in some_changes(7, 60) + list(changes_to(2)):
            back = undone(change)
            self.assertEqual(joined(change, back), IDLE)
            self.assertEqual(joined(back, change), IDLE)
            self.assertEqual(undone(back), change)

    def test_determinants(self):
        seen = set()
        for one, two in zip(some_changes(8, 60), some_changes(9, 60)):
            self.assertEqual(determinant(joined(one, two)), determinant(one) * determinant(two))
            seen.add((determinant(one), determinant(two)))
        self.assertEqual(len(seen), 4)

    def test_sixty_digits(self):
        change = ((1, LONGEST), (0, -1))
        self.assertEqual(joined(change, change), ((1, 0), (0, 1)))
        self.assertEqual(undone(((1, LONGEST), (0, 1))), ((1, -LONGEST), (0, 1)))
        self.assertEqual(joined(((1, LONGEST), (0, 1)), ((1, 1), (0, 1))), ((1, LONG), (0, 1)))

    def test_wrong_ones(self):
        for value in NO_CHANGES + LONG_CHANGES:
            self.refuses(InvalidChange, {}, joined, value, IDLE)
            self.refuses(InvalidChange, {}, joined, IDLE, value)
            self.refuses(InvalidChange, {}, joined, value, value)
            self.refuses(InvalidChange, {}, undone, value)

    def test_what_is_not_true(self):
        """[1.5]: the sequence of joined changes matters."""
        one, two = ((1, 1), (0, 1)), ((0, 1), (-1, 0))
        self.assertNotEqual(joined(one, two), joined(two, one))


class ChangesTo(Refusals, unittest.TestCase):
    """[1.2]"""

    def test_all_of_them_ascending(self):
        for most in range(5):
            wanted = [((p, q), (r, s)) for p, q, r, s in itertools.product(range(-most, most + 1), repeat=4)
                      if p * s - q * r in (1, -1)]
            self.assertEqual(list(changes_to(most)), sorted(wanted))

    def test_how_many(self):
        self.assertEqual([len(list(changes_to(most))) for most in (0, 1)], [0, 40])

    def test_is_a_generator(self):
        self.assertTrue(inspect.isgenerator(changes_to(2)))

    def test_errors_come_with_the_first_one(self):
        for value in NO_INTEGERS + (-1, 5, 100):
            made = changes_to(value)
            self.refuses_number(InvalidNumber, value, next, made)


if __name__ == "__main__":
    unittest.main()
