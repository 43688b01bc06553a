"""Lattices of rows of two or three integers."""

from formrings.base.checks import are_short_integers
from formrings.errors import InvalidOperation, Refused

MAX_ROWS = 64


def check_rows(rows):
    """Refuse what is no tuple of 1 to MAX_ROWS rows of equally many integers, two or three."""
    if not isinstance(rows, tuple) or not 1 <= len(rows) <= MAX_ROWS:
        raise InvalidOperation("the rows are not a tuple of 1 to 64")
    wide = 2 if are_short_integers(rows[0], 2) else 3
    if not all([are_short_integers(row, wide) for row in rows]):
        raise InvalidOperation("the rows are not tuples of equally many integers, two or three")


def less(row, other, times):
    """The row less so many times the other one."""
    return tuple([first - times * second for first, second in zip(row, other)])


def parted(step, row, at):
    """Two rows with the same sums of multiples as the given ones, the second one with 0 at the index."""
    first, second = step, row
    while second[at] != 0:
        first, second = second, less(first, second, first[at] // second[at])
    return first, second


def with_row(steps, row):
    """The steps of the lattice that has the row, too."""
    found = []
    left = row
    for at, step in enumerate(steps):
        kept, left = parted(step, left, at)
        found.append(kept)
    return found


def upright(step, at):
    """The row or its opposite, so that it has no integer below 0 at the index."""
    return less(step, step, 2) if step[at] < 0 else step


def tidied(steps):
    """The steps with integers above 0 at their indices, and small ones behind."""
    above = [upright(step, at) for at, step in enumerate(steps)]
    found = []
    for at, step in enumerate(above):
        row = step
        for behind in range(at + 1, len(above)):
            if above[behind][behind] != 0:
                row = less(row, above[behind], row[behind] // above[behind][behind])
        found.append(row)
    return found


def plain_rows(rows):
    """The plain rows of the lattice of rows of integers of any length: Refused if it has too few."""
    wide = len(rows[0])
    # A row of zeros stands for a step that no row has told yet.
    steps = [(0,) * wide for _ in range(wide)]
    for row in rows:
        # Tidied each time, so that the integers do not grow from row to row.
        steps = tidied(with_row(steps, row))
    if not all([step[at] != 0 for at, step in enumerate(steps)]):
        raise Refused(("rank",))
    return tuple(steps)


def index_of_plain(plain):
    """The index of the lattice with these plain rows."""
    result = 1
    for at, step in enumerate(plain):
        result = result * step[at]
    return result


def is_row_of(plain, row):
    """Whether a row is in the lattice with these plain rows."""
    left = row
    for at, step in enumerate(plain):
        if left[at] % step[at] != 0:
            return False
        left = less(left, step, left[at] // step[at])
    return True


def least_rows(rows):
    """The plain rows of the lattice of the rows."""
    check_rows(rows)
    return plain_rows(rows)


def lattice_index(rows):
    """The index of the lattice of the rows."""
    check_rows(rows)
    return index_of_plain(plain_rows(rows))


def is_inside(rows, row):
    """Whether the row is in the lattice of the rows."""
    check_rows(rows)
    if not are_short_integers(row, len(rows[0])):
        raise InvalidOperation("the row is not a tuple of as many integers")
    return is_row_of(plain_rows(rows), row)
