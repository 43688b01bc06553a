import itertools
import unittest

from formrings.box.boxes import Box
from formrings.errors import InvalidOperation, ParseError
from formrings.form.doubles import Double
from formrings.form.forms import Form
from formrings.ideal.ideals import Ideal, dual, inverse_of, made_by, whole
from formrings.ideal.primes import ideals_of, primes_over
from formrings.ring.rings import Element, Ring
from formrings.text.texts import read, write
from tests.helper import CUBIC, LONG, LONGEST, NO_INTEGERS, NO_TUPLES, NOTHING, PLAIN, ROOT, ROUND, Refusals, nested, rows_of

FORMS = [CUBIC, ROUND, PLAIN, ROOT, NOTHING, Form((2, 4, 6, 8)), Form((LONGEST, -LONGEST, 0, 1)), Form((0, 2, 2, 0))]
KINDS = {"form": Form, "double": Double, "ring": Ring, "element": Element, "ideal": Ideal}


def values():
    """Some values of each kind."""
    for row in rows_of(171, 10, 4, 50) + [form.coefficients for form in FORMS]:
        form = Form(row)
        yield form
        yield Ring(form)
        yield Double(row[:3])
        ring = Ring(form)
        for entries in rows_of(172, 6, 3, 9) + [(0, 0, 0), (LONGEST, 0, -1)]:
            for bottom in (1, -1, 2, 6, -10, LONGEST):
                yield ring.element(entries, bottom)
        yield whole(ring)
        yield whole(ring).stretched(ring.one().scaled(2, 3))
        for ideal, _ in primes_over(ring, 5):
            yield ideal
            yield ideal * ideal + whole(ring).stretched(ring.one().scaled(7, 4))
    for ideal in ideals_of(Ring(PLAIN), 12) + (inverse_of(made_by(Ring(ROOT), (Ring(ROOT).w(),))),
                                               dual(whole(Ring(CUBIC)))):
        yield ideal


class Examples(unittest.TestCase):
    def test_lines(self):
        self.assertEqual(
            [write(CUBIC), write(Ring(ROOT).element((1, 2, -1), 2)), write(whole(Ring(ROOT))),
             read("double 1 1 6") == Double((1, 1, 6)), str(read("element 1 1 2 1: 0 3 -2"))],
            ['form 1 1 2 1', 'element 1 0 0 -2: 1 2 -1/2', 'ideal 1 0 0 -2: 1 0 0, 0 1 0, 0 0 1', True, '3w-2t'])
        for text, spot in (("element 1 1 2 1: 0 2 4/2", 2), ("ring 1 1 2 1: 0 0 0", 0)):
            with self.assertRaises(ParseError) as caught:
                read(text)
            self.assertEqual(caught.exception.spot, spot)

    def test_texts_by_the_words(self):
        ring = Ring(ROOT)
        for value, text in (
                (Form((0, -1, 0, 10)), "form 0 -1 0 10"), (Double((-1, 0, 7)), "double -1 0 7"),
                (ring, "ring 1 0 0 -2"),
                (ring.w(), "element 1 0 0 -2: 0 1 0"), (ring.element((0, 0, 0), 5), "element 1 0 0 -2: 0 0 0"),
                (ring.element((2, 4, -6), -4), "element 1 0 0 -2: -1 -2 3/2"),
                (Ideal(ring, ((2, 0, 0), (0, 2, 0), (0, 0, 1)), 2), "ideal 1 0 0 -2: 2 0 0, 0 2 0, 0 0 1/2"),
                (Ideal(ring, ((4, 0, 0), (0, 4, 0), (0, 0, 4)), 6), "ideal 1 0 0 -2: 2 0 0, 0 2 0, 0 0 2/3")):
            self.assertEqual(write(value), text)
            self.assertEqual(read(text), value)


class Written(Refusals, unittest.TestCase):
    """[17.1], [17.2]"""

    def test_all_are_read_back(self):
        kinds = {}
        for value in values():
            text = write(value)
            word = text.split(" ")[0]
            kinds[word] = kinds.get(word, 0) + 1
            self.assertIs(type(value), KINDS[word])
            self.assertLessEqual(set(text), set("abcdefghijklmnopqrstuvwxyz0123456789-/,: "))
            found = read(text)
            self.assertIs(type(found), type(value))
            self.assertEqual(found, value)
            self.assertEqual(write(found), text)
        self.assertEqual(set(kinds), set(KINDS))

    def test_bottoms(self):
        ring = Ring(CUBIC)
        self.assertEqual(write(ring.element((1, 1, 1), 1)), "element 1 1 2 1: 1 1 1")
        self.assertEqual(write(ring.element((1, 1, 1), LONGEST)), f"element 1 1 2 1: 1 1 1/{LONGEST}")
        self.assertEqual(read(f"element 1 1 2 1: 1 1 1/{LONGEST}").bottom, LONGEST)

    def test_longer_integers_are_written_and_not_read(self):
        long = Form((1, 0, 0, LONGEST)).times(10)
        element = Ring(CUBIC).element((LONGEST, 1, 1)).scaled(100)
        under = Ring(CUBIC).element((1, 1, 1), LONGEST).scaled(1, 1000)
        double = Double((LONGEST, 0, 1)).led(((2, 1), (1, 1)))
        ideal = whole(Ring(CUBIC)).stretched(Ring(CUBIC).one().scaled(LONGEST)).stretched(Ring(CUBIC).one().scaled(11))
        for value, spot in ((long, 0), (Ring(long), 0), (double, 0), (element, 1), (under, 1), (ideal, 1),
                            (Ring(long).w(), 0), (whole(Ring(long)), 0)):
            text = write(value)
            self.assertTrue(any(len(word.strip("-,:/")) > 60 for part in text.split(" ") for word in part.split("/")))
            self.refuses(ParseError, {"spot": spot}, read, text)

    def test_other_values(self):
        wrong = [value for value in NO_INTEGERS + NO_TUPLES + (1, (1, 1, 2, 1), nested(8), "form 1 1 2 1")
                 if not isinstance(value, tuple(KINDS.values()))]
        self.assertTrue(any(isinstance(value, Box) for value in wrong))
        for value in wrong:
            self.refuses(InvalidOperation, {}, write, value)


class Read(Refusals, unittest.TestCase):
    """[17.1]"""

    def spot(self, spot, *texts):
        for text in texts:
            self.refuses(ParseError, {"spot": spot}, read, text)

    def test_no_strings(self):
        for value in NO_INTEGERS + NO_TUPLES + (b"form 1 1 2 1", ["form 1 1 2 1"], ("form 1 1 2 1",), nested(8)):
            if not isinstance(value, str):
                self.refuses(ParseError, {"spot": None}, read, value)

    def test_first_parts(self):
        self.spot(
            0, "", " ", "form", "form ", "1 1 2 1", "form1 1 2 1", "Form 1 1 2 1", "forms 1 1 2 1", " form 1 1 2 1",
            "form 1 1 2 1 ", "form  1 1 2 1", "form 1  1 2 1", "form 1 1 2", "form 1 1 2 1 0", "form 1 1 2 +1",
            "form 1 1 2 01",
            "form 1 1 2 -0", "form 1 1 2 00", "form 1 1 2 --1", "form 1 1 2 -", "form 1 1 2 1.0", "form 1 1 2 1_0",
            "form 1 1 2 a",
            "form 1,1,2,1", "form 1, 1, 2, 1", "form\t1 1 2 1", "form 1 1 2\t1", "form 1 1 2 1\n", "\nform 1 1 2 1",
            "form 1 1 2 1:",
            "form 1 1 2 -01", "form (1, 1, 2, 1)", "form 1 1 2 1/2", f"form 1 1 2 {LONG}", f"form {-LONG} 1 2 1",
            "double 1 1",
            "double 1 1 2 1", "double 1 1 06", "ring 1 1 2", "ring 1 1 2 1 1", "box 1 1 2 1", "shelf 1 1 2 1",
            "a" * 4000,
            "9" * 4000, "form " + "1 " * 1990, "(1, 1, 2, 1)", "None", "element", "ideal", "form 1 1 2 \u0661")

    def test_second_parts_that_are_missing_or_too_many(self):
        self.spot(
            0, "form 1 1 2 1: ", "form 1 1 2 1: 1", "form 1 1 2 1: 1 2 3", "double 1 1 6: 1 2 3", "double 1 1 6: ",
            "ring 1 1 2 1: ", "ring 1 1 2 1: 1 0 0, 0 1 0, 0 0 1", "element 1 1 2 1", "element 1 1 2 1:",
            "element 1 1 2 1 :1 2 3",
            "element 1 1 2 1:1 2 3", "ideal 1 1 2 1", "ideal 1 1 2 1:", "element 1 1 2: 1 2 3",
            "element 1 1 2 1 : 1 2 3",
            "element 1 1 2 01: 1 2 3", "ideal 1 1 2 1 1: 1 0 0, 0 1 0, 0 0 1", "element: 1 2 3", "element : 1 2 3",
            ": 1 2 3",
            ": ", "element 1: 1 2 1: 1 2 3", "form 1 1 2 1: : ", f"element {LONG} 1 2 1: 1 2 3", "element 1 1 2 01: a")

    def test_second_parts_of_elements(self):
        self.spot(
            1, *("element 1 1 2 1: " + part for part in (
                "", " ", "1 2", "1 2 3 4", " 1 2 3", "1 2 3 ", "1  2 3", "1 2 3/", "1 2 3/1", "1 2 3/0", "1 2 3/-2",
                "1 2 3/02",
                "1 2 3/2/3", "1 2 3 /2", "1 2 3/ 2", "1 2 3/2 ", "/2", "1 2 03", "1 2 -0", "+1 2 3", "1 2 3/+2",
                "1, 2, 3", "1 2 3, 4",
                "1 2 3, 1 2 3, 1 2 3", "(1 2 3)/2", "1/2 2 3", "w", "1 2 3: 4", "1 2 3/2: ", "1 2 3\n", "1\t2 3",
                f"1 2 {LONG}",
                f"1 2 3/{LONG}", f"{-LONG} 2 3", "1 2 3//2", "a b c", "1 2 3/a", "a" * 3900)))

    def test_second_parts_of_ideals(self):
        self.spot(
            1, *("ideal 1 0 0 -2: " + part for part in (
                "", "1 0 0", "1 0 0, 0 1 0", "1 0 0, 0 1 0, 0 0 1, 0 0 0", "1 0 0,0 1 0,0 0 1",
                "1 0 0, 0 1 0,  0 0 1", "1 0 0 0 1 0 0 0 1",
                "1 0 0, 0 1 0, 0 0 1 ", "1 0 0, 0 1 0, 0 0 1,", "1 0 0, 0 1 0, 0 0 1, ", "1 0, 0 1 0, 0 0 1",
                "1 0 0 0, 0 1 0, 0 0 1",
                "1 0 0, 0 1 0, 0 0 1/", "1 0 0, 0 1 0, 0 0 1/1", "1 0 0, 0 1 0, 0 0 1/0", "1 0 0, 0 1 0, 0 0 1/-2",
                "1 0 0, 0 1 0, 0 0 1/02",
                "1 0 0/2, 0 1 0/2, 0 0 1/2", "1 0 0/2, 0 1 0, 0 0 1", "01 0 0, 0 1 0, 0 0 1", "1 0 0, 0 1 0, 0 -0 1",
                "1 0 0; 0 1 0; 0 0 1",
                "1 0 0, 0 1 0, 0 0 1: ", "1 0 0: 0 1 0: 0 0 1", "1 0 0, 0 1 0, 0 0 1/2 ", f"1 0 0, 0 1 0, 0 0 {LONG}",
                f"1 0 0, 0 1 0, 0 0 1/{LONG}", "1 0 0\n, 0 1 0, 0 0 1", "((1, 0, 0), (0, 1, 0), (0, 0, 1))",
                " 1 0 0, 0 1 0, 0 0 1")))

    def test_elements_with_another_text(self):
        self.spot(2, *("element 1 1 2 1: " + part for part in (
            "0 2 4/2", "0 0 0/2", "6 3 9/6", "2 2 2/4", "-3 -6 0/9", f"{LONGEST} 0 0/{LONGEST}", "0 0 0/7")))
        for entries in itertools.product((-2, 0, 3, 4), repeat=3):
            for bottom in (2, 3, 4, 12):
                text = f"element 1 1 2 1: {entries[0]} {entries[1]} {entries[2]}/{bottom}"
                element = Ring(CUBIC).element(entries, bottom)
                if element.bottom == bottom:
                    self.assertEqual(read(text), element)
                else:
                    self.spot(2, text)

    def test_ideals_with_another_text(self):
        self.spot(2, *("ideal 1 0 0 -2: " + part for part in (
            "2 0 0, 0 2 0, 0 0 2/2", "2 0 0, 0 2 0, 0 0 2/4", "0 0 0, 0 0 0, 0 0 0", "1 0 0, 0 1 0, 0 1 0",
            "0 1 0, 1 0 0, 0 0 1",
            "-1 0 0, 0 1 0, 0 0 1", "1 0 0, 0 1 0, 0 0 -1", "1 1 0, 0 1 0, 0 0 1", "2 0 3, 0 2 0, 0 0 2",
            "2 0 -1, 0 2 0, 0 0 2",
            "1 0 0, 1 1 0, 0 0 1", "1 0 0, 0 1 0, 0 1 1", "1 0 0, 0 2 0, 0 0 1", "1 0 0, 0 1 0, 0 0 2",
            f"{LONGEST} 0 0, 0 1 0, 0 0 1", f"{LONGEST} 0 0, 0 {LONGEST} 0, 0 0 {LONGEST}/{LONGEST}",
            "1 0 0, 0 1 0, 0 0 2/2")))

    def test_all_small_rows_of_ideals(self):
        ring = Ring(PLAIN)
        found = {ideal.rows for norm in range(1, 28) for ideal in ideals_of(ring, norm)}
        many = 0
        for i, j, k in itertools.product((0, 1, 2, 3), repeat=3):
            for x, y, z in itertools.product((-1, 0, 1, 2), repeat=3):
                rows = ((i, x, y), (0, j, z), (0, 0, k))
                for bottom in (1, 2):
                    text = "ideal 0 1 1 0: " + ", ".join(" ".join(map(str, row)) for row in rows) + "/2" * (bottom - 1)
                    lowest = bottom == 1 or any(entry % 2 for row in rows for entry in row)
                    if rows in found and lowest:
                        many += 1
                        self.assertEqual(read(text), Ideal(ring, rows, bottom))
                    else:
                        self.spot(2, text)
        self.assertGreater(many, 30)

    def test_the_first_fault_is_told(self):
        self.spot(0, "element 1 1 2: 0 2 4/2", "form 1 1 2 1: 0 2 4/2", "ideal 1 1 2 x: y")
        self.spot(1, "element 1 1 2 1: 0 2 4/02", "ideal 1 1 2 1: 2 0 0, 0 2 0, 0 0 2/1")

    def test_texts_near_those_that_are_read(self):
        for text in ("form 1 1 2 1", "double 1 -1 6", "ring 0 1 1 0", "element 1 1 2 1: 1 2 -1/2",
                     "ideal 1 0 0 -2: 2 0 0, 0 2 0, 0 0 1/2"):
            self.assertEqual(write(read(text)), text)
            for at in range(len(text) + 1):
                for sign in ("", " ", "0", "1", "-", "+", ":", ": ", ",", ", ", "/", "a", "\n", "\t"):
                    for near in (text[:at] + sign + text[at:], text[:at] + sign + text[at + 1:]):
                        try:
                            found = read(near)
                        except ParseError as error:
                            self.assertIn(error.spot, (0, 1, 2))
                        else:
                            self.assertEqual(write(found), near)


if __name__ == "__main__":
    unittest.main()
