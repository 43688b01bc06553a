import inspect
import itertools
import unittest

from formrings.above.counts import form_below, tables_below
from formrings.above.steps import above, below, heavy_places, is_greatest, roots_at
from formrings.base.changes import changes_to
from formrings.base.integers import is_prime
from formrings.errors import InvalidNumber, InvalidOperation, NothingToUndo, Refused, TooMany, UnknownName
from formrings.form.forms import Form
from formrings.led.least import least_form
from formrings.led.moves import least_of
from formrings.led.ways import are_led
from formrings.prime.kinds import kind_at
from formrings.shelf import shelf as module
from formrings.shelf.shelf import Shelf
from tests.helper import (
    CUBIC, IDLE, LONG, LONG_CHANGES, LONGEST, NO_CHANGES, NO_INTEGERS, NO_TUPLES, NOTHING, OBJECTS, PLAIN, ROOT, ROUND,
    Refusals, nested, no_objects, numbers, some_changes)

MOST = 10 ** 20 - 1
NO_NAMES = NO_INTEGERS + NO_TUPLES + (
    "A", "aB", "a1", "a b", "a_b", "a-b", " a", "a ", "a\n", "abcdefghi", "a" * 4000, "\u00e4", b"a", ("a",), ["a"],
    nested(8))
KINDS = ("all", "three", "pair", "none", "twice", "thrice")
FORMS = [CUBIC, ROUND, PLAIN, ROOT, NOTHING, Form((2, 2, 0, 2)), Form((4, 2, 1, 1)), Form((0, 0, 3, 1)),
         Form((0, 1, 0, -1)),
         Form((0, 2, 1, 0)), Form((1, 0, 0, -10)), Form((MOST, 0, 0, -MOST)), Form((12347, 3, 1, 98765))]


def filled():
    """A shelf with some forms."""
    shelf = Shelf()
    shelf.do(("put", "b", PLAIN), ("put", "a", CUBIC), ("put", "zz", Form((2, 2, 0, 2))), ("put", "abcdefgh", ROOT))
    return shelf


def state(shelf):
    """All that a shelf tells."""
    return (shelf.forms, shelf.sayings, shelf.past, list(shelf), len(shelf), str(shelf))


def is_true_by_words(forms, saying):
    word, one = saying[0], forms[saying[1]]
    if word == "alike":
        return are_led(one, forms[saying[2]])
    if word == "below":
        other, index = forms[saying[2]], saying[3]
        within = [least_of(form_below(other, table).coefficients) for table in tables_below(other, index)]
        return least_of(one.coefficients) in within
    if word == "discriminant":
        return one.discriminant == saying[2]
    if word == "greatest":
        return 0 < abs(one.discriminant) <= 10 ** 8 and is_greatest(one)
    return kind_at(one, saying[2]) == saying[3]


class Examples(unittest.TestCase):
    def test_constants(self):
        self.assertEqual((module.MAX_NAME, module.MAX_SAID, module.MAX_DIGITS), (8, 20, 20))

    def test_lines(self):
        shelf = Shelf()
        self.assertIsNone(shelf.do(("put", "a", PLAIN), ("put", "b", PLAIN), ("down", "b", 2, (0, 1))))
        self.assertEqual(
            [shelf.say(saying) for saying in (("below", "b", "a", 2), ("greatest", "a"), ("discriminant", "b", 4))],
            [None, None, None])
        self.assertIsNone(shelf.do(("lead", "a", ((1, 1), (0, 1))), ("least", "b")))
        self.assertEqual(
            [str(shelf["a"]), str(shelf["b"]), shelf.is_true(("alike", "a", "b")), shelf.past, str(shelf)],
            ['(2, 3, 1, 0)', '(0, 1, 0, -1)', False, 5, 'shelf: 2 forms, 3 sayings'])
        for deed, reason in ((("up", "b", 2, (1, 0)), ('place', 0)),
                             (("up", "b", 2, (1, 1)), ('broken', ('below', 'b', 'a', 2)))):
            with self.assertRaises(Refused) as caught:
                shelf.do(deed)
            self.assertEqual(caught.exception.reason, reason)


class Checked(Refusals, unittest.TestCase):
    def refused(self, shelf, error, kept, call, *arguments):
        """The call is refused, and the shelf is as it was."""
        before, twin = state(shelf), shelf.twin()
        self.refuses(error, kept, call, *arguments)
        self.assertEqual(state(shelf), before)
        self.assertEqual(shelf, twin)
        if before[2] > 0:
            one, other = shelf.twin(), twin
            one.undo()
            other.undo()
            self.assertEqual(state(one), state(other))


class Deeds(Checked):
    """[17.4]"""

    def test_put(self):
        shelf = Shelf()
        for at, form in enumerate(FORMS):
            self.assertIsNone(shelf.do(("put", "abcdefgh"[:at % 8 + 1], form)))
            self.assertEqual(shelf["abcdefgh"[:at % 8 + 1]], form)
        self.assertEqual(len(shelf), 8)
        self.assertEqual(shelf.past, len(FORMS))

    def test_take(self):
        shelf = filled()
        shelf.do(("take", "b"))
        self.assertEqual((list(shelf), "b" in shelf), (["a", "abcdefgh", "zz"], False))
        self.refused(shelf, UnknownName, {"wanted": "b"}, shelf.do, ("take", "b"))
        shelf.do(("put", "b", CUBIC))
        self.assertEqual(shelf["b"], CUBIC)

    def test_lead_and_least(self):
        for form in FORMS:
            for change in some_changes(191, 6) + list(changes_to(1))[::9]:
                shelf = Shelf()
                shelf.do(("put", "a", form))
                led = form.led(change)
                if max(map(abs, led.coefficients)) <= MOST:
                    shelf.do(("lead", "a", change))
                    self.assertEqual(shelf["a"], led)
                    if max(map(abs, least_form(led).coefficients)) <= MOST:
                        shelf.do(("least", "a"))
                        self.assertEqual(shelf["a"], least_form(form))

    def test_up_and_down(self):
        for form in FORMS:
            for prime in (2, 3, 5, 97):
                places = [(x, 1) for x in range(prime)] + [(1, 0)]
                for place in places[:7] + places[-2:]:
                    for word, right, step in (("up", heavy_places, above), ("down", roots_at, below)):
                        shelf = Shelf()
                        shelf.do(("put", "a", form))
                        if place not in right(form, prime):
                            self.refused(shelf, Refused, {"reason": ("place", 0)}, shelf.do, (word, "a", prime, place))
                            continue
                        made = step(form, prime, place)
                        if max(map(abs, made.coefficients)) <= MOST:
                            shelf.do((word, "a", prime, place))
                            self.assertEqual(shelf["a"], made)
                            self.assertEqual(shelf.past, 2 if made != form else 1)
                        else:
                            self.refused(shelf, Refused, {"reason": ("great", 0)}, shelf.do, (word, "a", prime, place))

    def test_down_and_up_again(self):
        # [17.5]: at the place at which the ring was.
        for form in FORMS:
            for prime in (2, 3, 5):
                for place in roots_at(form, prime):
                    within = below(form, prime, place)
                    if max(map(abs, within.coefficients)) > MOST // 100:
                        continue
                    places = heavy_places(within, prime)
                    alike = [each for each in places if are_led(above(within, prime, each), form)]
                    self.assertGreater(len(alike), 0)
                    shelf = Shelf()
                    shelf.do(("put", "a", form), ("put", "b", form), ("down", "b", prime, place))
                    shelf.do(("up", "b", prime, alike[0]))
                    self.assertIs(shelf.is_true(("alike", "a", "b")), True)

    def test_several(self):
        shelf = filled()
        self.assertIsNone(shelf.do(("put", "c", ROUND), ("lead", "c", ((0, 1), (1, 0))), ("take", "a"),
                                   ("put", "a", PLAIN),
                                   ("down", "b", 2, (1, 0)), ("least", "c")))
        self.assertEqual(shelf.forms, {"a": PLAIN, "abcdefgh": ROOT, "b": below(PLAIN, 2, (1, 0)), "c": ROUND,
                                       "zz": Form((2, 2, 0, 2))})
        self.assertEqual(shelf.past, 2)
        shelf.undo()
        self.assertEqual(shelf, filled())

    def test_no_deeds(self):
        shelf = filled()
        self.assertIsNone(shelf.do())
        self.assertEqual(shelf.past, 1)

    def test_deeds_that_change_nothing_in_the_end(self):
        shelf = filled()
        for deeds in ((("put", "a", Form((1, 1, 2, 1))),), (("lead", "a", IDLE),), (("least", "a"),),
                      (("put", "x", PLAIN), ("take", "x")), (("take", "a"), ("put", "a", CUBIC)),
                      (("lead", "b", ((1, 1), (0, 1))), ("lead", "b", ((1, -1), (0, 1))))):
            before = state(shelf)
            self.assertIsNone(shelf.do(*deeds))
            self.assertEqual(state(shelf), before)

    def test_long_coefficients(self):
        shelf = Shelf()
        shelf.do(("put", "a", Form((MOST, -MOST, 0, 1))))
        for row in ((MOST + 1, 0, 0, 1), (1, 0, 0, -MOST - 1), (0, LONGEST, 0, 0)):
            self.refused(shelf, InvalidOperation, {}, shelf.do, ("put", "a", Form(row)))
        self.refused(shelf, Refused, {"reason": ("great", 0)}, shelf.do, ("lead", "a", ((1, 0), (10, 1))))
        self.refused(shelf, Refused, {"reason": ("great", 1)}, shelf.do, ("put", "b", PLAIN),
                     ("lead", "b", ((1, 10 ** 21), (0, 1))))
        shelf.do(("put", "c", Form((0, 0, 0, 1))), ("lead", "c", ((1, 0), (1, 1))))
        self.refused(shelf, Refused, {"reason": ("great", 0)}, shelf.do, ("lead", "c", ((1, 10 ** 7), (0, 1))))
        # A longer one between is refused, too.
        self.refused(shelf, Refused, {"reason": ("great", 1)}, shelf.do, ("put", "d", PLAIN),
                     ("lead", "d", ((1, 10 ** 20), (0, 1))), ("lead", "d", ((1, -10 ** 20), (0, 1))))
        shelf.do(("put", "d", PLAIN), ("lead", "d", ((1, 10 ** 9), (0, 1))))

    def test_values_that_are_no_deeds(self):
        shelf = filled()
        wrong = list(NO_TUPLES) + [
            (), ("put",), ("put", "a"), ("put", "a", CUBIC, 1), ("take",), ("take", "a", 1), ("lead", "a"),
            ("lead", "a", IDLE, 1),
            ("least",), ("least", "a", 1), ("up", "zz", 2), ("down", "b", 2), ("up", "zz", 2, (0, 1), 1),
            ("down", "b", 2, (0, 1), 1),
            ("Put", "a", CUBIC), ("puts", "a", CUBIC), ("", "a"), (None, "a"), (b"take", "a"), (("take",), "a"),
            (["take"], "a"),
            ("say", "a"), ("alike", "a", "b"), ["take", "a"], {"take": "a"}, "take a", nested(8), ("a", "take"),
            (True, "a"),
            (CUBIC, "a"), ({}, "a")]
        for value in NO_NAMES:
            wrong += [("put", value, CUBIC), ("take", value), ("lead", value, IDLE), ("least", value),
                      ("up", value, 2, (0, 1)),
                      ("down", value, 2, (0, 1))]
        wrong += [("put", "a", value) for value in no_objects(Form) + [(1, 1, 2, 1)]]
        wrong += [("lead", "a", value) for value in NO_CHANGES + LONG_CHANGES if value != IDLE]
        for word in ("up", "down"):
            wrong += [(word, "b", value, (0, 1)) for value in NO_INTEGERS + (0, 1, 4, 91, 100, 101, 103, -2, LONGEST)]
            wrong += [(word, "b", 3, value) for value in NO_TUPLES + (
                (), (0,), (0, 1, 0), (3, 1), (-1, 1), (1, 2), (0, 0), (0, -1), (2, 0), (-1, 0), (True, 1), (0, True),
                (1, False),
                (True, 0), ("0", 1), [0, 1], (LONG, 1), ((0, 1),), (None, 1), nested(8))]
        for value in wrong:
            self.refuses(InvalidOperation, {}, shelf.do, value)
            self.refuses(InvalidOperation, {}, shelf.do, ("take", "unknown"), value)
            self.refuses(InvalidOperation, {}, shelf.do, ("take", "a"), value, ("take", "a"))
        self.assertEqual(state(shelf), state(filled()))

    def test_the_first_fault_deed_by_deed(self):
        shelf = filled()
        place, great = ("up", "b", 2, (0, 1)), ("lead", "b", ((1, 10 ** 21), (0, 1)))
        for faults in itertools.permutations((("take", "x"), place, great), 2):
            for ahead in range(3):
                deeds = [("put", "q", CUBIC)] * ahead + list(faults)
                error, kept = {"take": (UnknownName, {"wanted": "x"}), "up": (Refused, {"reason": ("place", ahead)}),
                               "lead": (Refused, {"reason": ("great", ahead)})}[faults[0][0]]
                self.refused(shelf, error, kept, shelf.do, *deeds)
        # A name that is put ahead is known behind, and one that is taken is not.
        self.refused(shelf, UnknownName, {"wanted": "a"}, shelf.do, ("take", "a"), ("least", "a"))
        for deed in (("take", "x"), ("lead", "x", IDLE), ("least", "x"), ("up", "x", 2, (0, 1)),
                     ("down", "x", 2, (0, 1))):
            self.refused(shelf, UnknownName, {"wanted": "x"}, shelf.do, deed)
            self.refused(shelf, UnknownName, {"wanted": "x"}, shelf.do, ("take", "a"), deed, ("take", "y"))
        self.refused(shelf, Refused, {"reason": ("place", 1)}, shelf.do, ("put", "x", PLAIN), ("up", "x", 2, (0, 1)))

    def test_the_last_deed_is_refused(self):
        shelf = filled()
        self.refused(shelf, UnknownName, {"wanted": "x"}, shelf.do, ("put", "n", PLAIN), ("take", "a"), ("least", "x"))
        self.assertNotIn("n", shelf)
        self.assertIn("a", shelf)


class Sayings(Checked):
    """[17.3]"""

    def sayings(self, names):
        for one, other in itertools.product(names, repeat=2):
            yield ("alike", one, other)
            for index in (1, 2, 3, 4, 8, 20):
                yield ("below", one, other, index)
        for name in names:
            yield ("greatest", name)
            for number in (-23, 1, 0, 49, 4, -108, LONGEST):
                yield ("discriminant", name, number)
            for prime in (2, 3, 23, 97):
                for word in KINDS:
                    yield ("kind", name, prime, word)

    def test_true_and_false_ones(self):
        shelf = Shelf()
        names = []
        for at, form in enumerate(FORMS + [below(PLAIN, 2, (0, 1)), ROUND.led(((0, 1), (1, 3))),
                                           below(ROOT, 5, (3, 1))]):
            names.append("abcdefghijklmnopqrst"[at])
            shelf.do(("put", names[-1], form))
        found = {True: 0, False: 0}
        for saying in self.sayings(names):
            right = is_true_by_words(shelf.forms, saying)
            found[right] += 1
            self.assertIs(shelf.is_true(saying), right, saying)
            if right:
                self.assertIsNone(shelf.say(saying))
                self.assertEqual(shelf.sayings, (saying,))
                shelf.unsay(saying)
            elif found[False] % 7 == 0:
                self.refused(shelf, Refused, {"reason": ("false",)}, shelf.say, saying)
        self.assertGreater(min(found.values()), 50)

    def test_below_with_every_index(self):
        shelf = Shelf()
        for index in range(1, 21):
            for table in tables_below(PLAIN, index)[:3]:
                shelf.do(("put", "a", form_below(PLAIN, table)), ("put", "b", PLAIN.led(((1, 0), (1, 1)))))
                for other in range(1, 21):
                    self.assertIs(shelf.is_true(("below", "a", "b", other)), other == index)

    def test_kept_twice(self):
        shelf = filled()
        shelf.say(("greatest", "a"))
        before = state(shelf)
        self.assertIsNone(shelf.say(("greatest", "a")))
        self.assertEqual(state(shelf), before)
        shelf.say(("greatest", "b"))
        self.assertEqual((shelf.sayings, shelf.past), ((("greatest", "a"), ("greatest", "b")), 3))

    def test_the_order(self):
        shelf = filled()
        sayings = [("kind", "a", 2, "none"), ("alike", "a", "a"), ("discriminant", "b", 1), ("below", "b", "b", 1)]
        for saying in sayings:
            shelf.say(saying)
        self.assertEqual(shelf.sayings, tuple(sayings))
        shelf.unsay(sayings[1])
        self.assertEqual(shelf.sayings, (sayings[0], sayings[2], sayings[3]))
        shelf.say(sayings[1])
        self.assertEqual(shelf.sayings, (sayings[0], sayings[2], sayings[3], sayings[1]))

    def test_values_that_are_no_sayings(self):
        shelf = filled()
        shelf.say(("below", "a", "a", 1))
        wrong = list(NO_TUPLES) + list(OBJECTS) + [
            (), ("alike",), ("alike", "a"), ("alike", "a", "a", "a"), ("below", "a", "a"), ("below", "a", "a", 1, 1),
            ("greatest",),
            ("greatest", "a", "a"), ("discriminant", "a"), ("discriminant", "a", -23, 1), ("kind", "a", 2),
            ("kind", "a", 2, "none", 1),
            ("Alike", "a", "a"), ("", "a"), (None, "a"), (b"greatest", "a"), (["greatest"], "a"),
            (("greatest",), "a"), ("put", "a", CUBIC),
            ["greatest", "a"], "greatest a", {"greatest": "a"}, nested(8), ("a", "greatest"), (CUBIC, "a"), ({}, "a")]
        for value in NO_NAMES:
            wrong += [("alike", value, "a"), ("alike", "a", value), ("below", value, "a", 1), ("below", "a", value, 1),
                      ("discriminant", value, 1), ("greatest", value), ("kind", value, 2, "none")]
        wrong += [("below", "a", "a", value) for value in NO_INTEGERS + (0, 21, -1, LONGEST)]
        wrong += [("discriminant", "a", value) for value in NO_INTEGERS]
        wrong += [("kind", "a", value, "none") for value in NO_INTEGERS + (0, 1, 4, 91, 100, 101, -2, LONGEST)]
        wrong += [("kind", "a", 2, value) for value in NO_INTEGERS + NO_TUPLES + ("None", "NONE", "no", "nones",
            ("none",), "", b"none")]
        before = state(shelf)
        for value in wrong:
            self.refuses(InvalidOperation, {}, shelf.say, value)
            self.assertIs(shelf.is_true(value), False)
            with self.assertRaises(UnknownName) as caught:
                shelf.unsay(value)
            self.assertIs(caught.exception.wanted, value)
        self.assertEqual(state(shelf), before)
        self.assertIs(shelf.is_true(("below", "a", "a", 1)), True)

    def test_unknown_names(self):
        shelf = filled()
        for saying, name in ((("alike", "x", "y"), "x"), (("alike", "a", "y"), "y"), (("below", "x", "a", 2), "x"),
                             (("below", "a", "y", 20), "y"), (("discriminant", "x", 0), "x"), (("greatest", "x"), "x"),
                             (("kind", "x", 97, "all"), "x")):
            self.refused(shelf, UnknownName, {"wanted": name}, shelf.say, saying)
            self.assertIs(shelf.is_true(saying), False)

    def test_twenty(self):
        shelf = filled()
        sayings = [("kind", "a", prime, kind_at(CUBIC, prime)) for prime in range(2, 100) if is_prime(prime)][:20]
        for saying in sayings:
            shelf.say(saying)
        self.assertEqual(len(shelf.sayings), 20)
        self.refused(shelf, TooMany, {"most": 20}, shelf.say, ("greatest", "a"))
        # Too many is told ahead of what is false, and behind what is unknown.
        self.refused(shelf, TooMany, {"most": 20}, shelf.say, ("alike", "a", "b"))
        self.refused(shelf, UnknownName, {"wanted": "x"}, shelf.say, ("greatest", "x"))
        for saying in sayings:
            self.assertIsNone(shelf.say(saying))
        shelf.unsay(sayings[7])
        shelf.say(("greatest", "a"))
        self.assertEqual(len(shelf.sayings), 20)

    def test_unsay(self):
        shelf = filled()
        shelf.say(("below", "a", "a", 1))
        for value in (("greatest", "a"), ("below", "a", "a", True), ("below", "a", "a", 2), ["below", "a", "a", 1],
                      "greatest", None):
            self.refused(shelf, UnknownName, {"wanted": value}, shelf.unsay, value)
        self.assertIsNone(shelf.unsay(("below", "a", "a", 1)))
        self.assertEqual((shelf.sayings, shelf.past), ((), 3))
        self.refused(shelf, UnknownName, {"wanted": ("below", "a", "a", 1)}, shelf.unsay, ("below", "a", "a", 1))


class Kept(Checked):
    """[17.4], [17.5]"""

    def said(self):
        shelf = filled()
        shelf.do(("put", "c", CUBIC), ("put", "d", below(PLAIN, 2, (0, 1))))
        for saying in (("alike", "a", "c"), ("below", "d", "b", 2), ("discriminant", "a", -23), ("greatest", "b"),
                       ("kind", "zz", 2, "all")):
            shelf.say(saying)
        return shelf

    def test_kept_by_deeds(self):
        shelf = self.said()
        for deeds in ((("lead", "a", ((1, 1), (0, 1))),), (("least", "a"),),
                      (("least", "d"), ("lead", "b", ((0, 1), (1, 0)))),
                      (("take", "abcdefgh"),), (("put", "a", CUBIC.led(((2, 1), (1, 1)))),),
                      (("put", "a", ROUND), ("put", "c", ROUND), ("put", "a", CUBIC), ("put", "c", CUBIC)),
                      (("take", "a"), ("put", "a", -CUBIC)),
                      (("down", "b", 3, (0, 1)), ("up", "b", 3, (1, 0)), ("least", "b")),
                      (("put", "zz", PLAIN.times(4)),), (("put", "zz", NOTHING),)):
            self.assertIsNone(shelf.do(*deeds), deeds)
            self.assertTrue(all(shelf.is_true(saying) for saying in shelf.sayings))
        self.assertEqual(len(shelf.sayings), 5)

    def test_broken_ones(self):
        shelf = self.said()
        one, two, three, four, five = shelf.sayings
        for saying, deeds in (
                (one, (("put", "a", ROUND),)), (one, (("put", "c", ROUND),)),
                (three, (("put", "a", ROOT), ("put", "c", ROOT))),
                (two, (("put", "d", PLAIN),)), (two, (("down", "b", 2, (0, 1)),)), (two, (("down", "d", 2, (1, 0)),)),
                (four, (("put", "b", PLAIN.times(2)), ("put", "d", below(PLAIN.times(2), 2, (0, 1))))),
                (five, (("put", "zz", ROUND),)), (five, (("put", "zz", PLAIN.times(2)), ("put", "zz", PLAIN.times(3)))),
                (one, (("put", "zz", ROUND), ("put", "a", ROUND)))):
            self.refused(shelf, Refused, {"reason": ("broken", saying)}, shelf.do, *deeds)

    def test_taken_names(self):
        shelf = self.said()
        one, two, three, four, five = shelf.sayings
        for saying, deeds in (
                (one, (("take", "a"),)), (one, (("take", "c"),)), (two, (("take", "b"),)), (two, (("take", "d"),)),
                (five, (("take", "zz"),)), (one, (("take", "zz"), ("take", "c"))),
                (two, (("take", "b"), ("take", "d"))),
                # What is taken is told ahead of what is broken.
                (five, (("put", "a", ROUND), ("take", "zz"))),
                (two, (("put", "a", ROUND), ("take", "zz"), ("take", "b")))):
            self.refused(shelf, Refused, {"reason": ("taken", saying)}, shelf.do, *deeds)
        self.assertIsNone(shelf.do(("take", "a"), ("put", "a", CUBIC)))
        self.assertIsNone(shelf.do(("take", "a"), ("take", "c"), ("put", "c", CUBIC), ("put", "a", CUBIC)))

    def test_broken_between_and_right_behind(self):
        shelf = self.said()
        self.assertIsNone(shelf.do(("put", "a", ROUND), ("take", "zz"), ("put", "zz", NOTHING), ("put", "a", CUBIC)))
        self.assertEqual(shelf["zz"], NOTHING)

    def test_great_discriminants_are_not_greatest(self):
        shelf = filled()
        shelf.say(("greatest", "a"))
        great = Form((1, 0, 1, 10 ** 8))
        self.refused(shelf, Refused, {"reason": ("broken", ("greatest", "a"))}, shelf.do, ("put", "a", great))
        self.refused(shelf, Refused, {"reason": ("broken", ("greatest", "a"))}, shelf.do, ("put", "a", NOTHING))

    def test_drawn_calls(self):
        source = numbers(192)
        shelf, past = filled(), []
        names = ["a", "b", "c", "zz"]
        done = {None: 0}
        for _ in range(600):
            name, other = source.choice(names), source.choice(names)
            deeds = [source.choice((
                ("put", name, source.choice(FORMS)), ("take", name),
                ("lead", name, source.choice(some_changes(193, 9))),
                ("least", name), ("up", name, 2, source.choice(((0, 1), (1, 0), (1, 1)))),
                ("down", name, source.choice((2, 3)),
                source.choice(((0, 1), (1, 0), (1, 1)))))) for _ in range(source.randint(1, 3))]
            saying = source.choice((
                ("alike", name, other), ("below", name, other, source.randint(1, 4)), ("greatest", name),
                ("discriminant", name, source.choice((-23, 1, 49, 4))), ("kind", name, 2, source.choice(KINDS))))
            before, twin = state(shelf), shelf.twin()
            call = source.choice((lambda: shelf.do(*deeds), lambda: shelf.do(*deeds), lambda: shelf.say(saying),
                                  lambda: shelf.unsay(saying), lambda: shelf.undo(source.randint(1, 2))))
            try:
                self.assertIsNone(call())
            except (UnknownName, Refused, TooMany, NothingToUndo) as error:
                done[type(error)] = done.get(type(error), 0) + 1
                self.assertEqual(state(shelf), before)
            else:
                done[None] += 1
                if shelf.past > before[2]:
                    self.assertEqual(shelf.past, before[2] + 1)
                    self.assertNotEqual(shelf, twin)
                    back = shelf.twin()
                    back.undo()
                    self.assertEqual(state(back), before)
            self.assertTrue(all(is_true_by_words(shelf.forms, saying) for saying in shelf.sayings))
            self.assertEqual(list(shelf), sorted(shelf.forms))
            past.append(shelf.past)
        self.assertEqual(set(done), {None, UnknownName, Refused, NothingToUndo} | set(done) & {TooMany})
        self.assertGreater(max(past), 5)


class Steps(Checked):
    """[17.4], undo and past"""

    def test_one_and_several(self):
        shelf = Shelf()
        seen = [state(shelf)]
        for call in (lambda: shelf.do(("put", "a", PLAIN)), lambda: shelf.say(("greatest", "a")),
                     lambda: shelf.do(("put", "b", CUBIC)),
                     lambda: shelf.unsay(("greatest", "a")), lambda: shelf.do(("take", "a"), ("put", "c", ROOT)),
                     lambda: shelf.say(("alike", "b", "b"))):
            self.assertIsNone(call())
            seen.append(state(shelf))
        self.assertEqual([each[2] for each in seen], list(range(7)))
        for steps in range(1, 7):
            twin = shelf.twin()
            self.assertIsNone(twin.undo(steps))
            self.assertEqual(state(twin), seen[6 - steps])
        for each in reversed(seen[:-1]):
            self.assertIsNone(shelf.undo())
            self.assertEqual(state(shelf), each)
        self.assertEqual(shelf, Shelf())

    def test_too_many(self):
        shelf = filled()
        for steps in (2, 3, LONGEST):
            self.refused(shelf, NothingToUndo, {"steps": steps}, shelf.undo, steps)
        self.refused(Shelf(), NothingToUndo, {"steps": 1}, Shelf().undo)
        shelf.undo(1)
        self.refused(shelf, NothingToUndo, {"steps": 1}, shelf.undo)

    def test_wrong_numbers(self):
        shelf = filled()
        for value in (0, -1, -LONGEST) + NO_INTEGERS:
            self.refuses_number(InvalidNumber, value, shelf.undo, value)
            self.refuses_number(InvalidNumber, value, Shelf().undo, value)
        self.assertEqual(state(shelf), state(filled()))

    def test_what_is_taken_back_is_no_step(self):
        shelf = filled()
        shelf.do(("put", "a", ROUND))
        shelf.undo()
        self.assertEqual((shelf.past, shelf["a"]), (1, CUBIC))
        shelf.do(("put", "a", PLAIN))
        shelf.undo(2)
        self.assertEqual((shelf.past, len(shelf)), (0, 0))


class Objects(Checked):
    """[0.2], and the class"""

    def test_an_empty_one(self):
        shelf = Shelf()
        self.assertEqual(state(shelf), ({}, (), 0, [], 0, "shelf: 0 forms, 0 sayings"))

    def test_names(self):
        shelf = filled()
        self.assertEqual(list(shelf), ["a", "abcdefgh", "b", "zz"])
        self.assertEqual(list(shelf.forms), ["a", "abcdefgh", "b", "zz"])
        self.assertEqual((len(shelf), sorted(shelf), [name for name in shelf]), (4, list(shelf), list(shelf)))
        for name, form in shelf.forms.items():
            self.assertTrue(name in shelf)
            self.assertEqual(shelf[name], form)
        shelf.do(("put", "aa", PLAIN), ("put", "y", ROOT))
        self.assertEqual((list(shelf), list(shelf.forms)), (["a", "aa", "abcdefgh", "b", "y", "zz"],) * 2)
        for name in NO_NAMES + ("x", "abc", "zzz"):
            self.assertIs(name in shelf, False)
            with self.assertRaises(UnknownName) as caught:
                shelf[name]
            self.assertIs(caught.exception.wanted, name)

    def test_what_is_returned_is_not_shared(self):
        shelf = filled()
        forms = shelf.forms
        forms["q"] = CUBIC
        del forms["a"]
        self.assertEqual(shelf, filled())
        names = list(shelf)
        shelf.do(("take", "a"))
        self.assertEqual(names, ["a", "abcdefgh", "b", "zz"])
        self.assertEqual(filled().forms["a"], CUBIC)

    def test_twins(self):
        shelf = filled()
        shelf.say(("greatest", "a"))
        twin = shelf.twin()
        self.assertIs(type(twin), Shelf)
        self.assertEqual(state(twin), state(shelf))
        twin.do(("put", "a", ROUND))
        twin.unsay(("greatest", "a"))
        self.assertEqual((shelf["a"], shelf.sayings, shelf.past), (CUBIC, (("greatest", "a"),), 2))
        self.assertEqual((twin["a"], twin.sayings, twin.past), (ROUND, (), 4))
        shelf.undo(2)
        self.assertEqual((len(shelf), len(twin), twin.past), (0, 4, 4))
        twin.undo(3)
        self.assertEqual(twin, filled())
        shelf.do(("put", "n", PLAIN))
        self.assertNotIn("n", twin)

    def test_equality(self):
        one, other = filled(), Shelf()
        self.assertFalse(one == other)
        self.assertTrue(one != other)
        for name in reversed(list(one)):
            other.do(("put", name, one[name]))
        self.assertEqual((one == other, one != other, one.past, other.past), (True, False, 1, 4))
        one.say(("greatest", "a"))
        self.assertNotEqual(one, other)
        other.say(("greatest", "b"))
        one.say(("greatest", "b"))
        other.say(("greatest", "a"))
        self.assertNotEqual(one, other)
        other.unsay(("greatest", "b"))
        other.say(("greatest", "b"))
        self.assertEqual(one, other)
        one.do(("lead", "a", ((1, 1), (0, 1))))
        self.assertNotEqual(one, other)
        for value in (None, True, {}, one.forms, list(one), str(one), nested(8)) + OBJECTS:
            self.assertIs(filled() == value, False)
            self.assertIs(filled() != value, True)

    def test_properties_and_methods(self):
        shelf = filled()
        self.keeps(shelf, ("forms", "sayings", "past"))
        for name in ("do", "say", "unsay", "is_true", "undo", "twin", "__contains__", "__getitem__", "__len__",
                     "__iter__", "__eq__",
                     "__str__"):
            self.assertIn(name, vars(Shelf))
        parameter = inspect.signature(Shelf.undo).parameters["steps"]
        self.assertEqual(parameter.default, 1)
        with self.assertRaises(TypeError):
            Shelf(1)
        self.assertEqual(str(shelf), "shelf: 4 forms, 0 sayings")


if __name__ == "__main__":
    unittest.main()
