"""Texts of forms, doubles, rings, elements and ideals."""

from formrings.base.checks import is_written_integer
from formrings.errors import InvalidOperation, ParseError
from formrings.form.doubles import Double
from formrings.form.forms import Form
from formrings.ideal.ideals import Ideal, ideal_of
from formrings.ideal.spans import is_kept, lowest
from formrings.ring.rings import Element, Ring, table_for
from formrings.ring.triples import determinant_by

# How many integers stand behind each word, and how many rows behind the cut.
WORDS = {"form": (4, 0), "double": (3, 0), "ring": (4, 0), "element": (4, 1), "ideal": (4, 3)}
CUT = ": "
NEXT_ROW = ", "


def row_text(numbers):
    """The integers with single blanks between them."""
    return " ".join([str(number) for number in numbers])


def bottom_text(bottom):
    """The end of the text of what has this bottom."""
    return "" if bottom == 1 else f"/{bottom}"


def row_of(text, many):
    """The tuple of the integers of a text of so many, or None if it is no such text."""
    words = text.split(" ")
    if len(words) != many or not all([is_written_integer(word) for word in words]):
        return None
    return tuple([int(word) for word in words])


def bottom_of(text):
    """The bottom of at least 2 of this text, or None if it is no such text."""
    row = row_of(text, 1)
    return row[0] if row is not None and row[0] >= 2 else None


def rows_and_bottom(text, many):
    """The pair of so many rows of three integers, and of the bottom, of a text, or None if it is no such text."""
    parts = text.split("/")
    bottom = 1 if len(parts) == 1 else bottom_of(parts[1])
    words = parts[0].split(NEXT_ROW)
    if len(parts) > 2 or bottom is None or len(words) != many:
        return None
    rows = [row_of(word, 3) for word in words]
    return None if None in rows else (tuple(rows), bottom)


def element_by(ring, rows, bottom):
    """The element with this row and this bottom: ParseError if its text has others."""
    element = ring.element(rows[0], bottom)
    if element.bottom != bottom:
        raise ParseError(2)
    return element


def ideal_by(ring, rows, bottom):
    """The ideal with these rows and this bottom: ParseError if there is none, or if its text has others."""
    if determinant_by(rows) == 0 or lowest(rows, bottom) != (rows, bottom) or not is_kept(table_for(ring), rows):
        raise ParseError(2)
    return ideal_of(ring, rows, bottom)


def write(value):
    """The text of a form, a double, a ring, an element or an ideal."""
    if isinstance(value, Form):
        return f"form {row_text(value.coefficients)}"
    if isinstance(value, Double):
        return f"double {row_text(value.coefficients)}"
    if isinstance(value, Ring):
        return f"ring {row_text(value.form.coefficients)}"
    if isinstance(value, Element):
        start = row_text(value.ring.form.coefficients)
        return f"element {start}: {row_text(value.entries)}{bottom_text(value.bottom)}"
    if isinstance(value, Ideal):
        start = row_text(value.ring.form.coefficients)
        rows = ", ".join([row_text(row) for row in value.rows])
        return f"ideal {start}: {rows}{bottom_text(value.bottom)}"
    raise InvalidOperation("there is no text of this value")


def read(text):
    """What has this text."""
    if not isinstance(text, str):
        raise ParseError(None)
    front, cut, behind = text.partition(CUT)
    word, _, numbers = front.partition(" ")
    if word not in WORDS:
        raise ParseError(0)
    many, lines = WORDS[word]
    row = row_of(numbers, many)
    if row is None or (cut == "") != (lines == 0):
        raise ParseError(0)
    if word == "double":
        return Double(row)
    form = Form(row)
    if lines == 0:
        return form if word == "form" else Ring(form)
    told = rows_and_bottom(behind, lines)
    if told is None:
        raise ParseError(1)
    rows, bottom = told
    return element_by(Ring(form), rows, bottom) if word == "element" else ideal_by(Ring(form), rows, bottom)
