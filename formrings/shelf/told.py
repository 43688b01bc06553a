"""What names, sayings and deeds are, whether sayings are true, and what deeds do."""

from formrings.above.counts import by_table, tables_of
from formrings.above.places import first_bar, form_around, form_within, is_heavy_at, is_place, is_root_at
from formrings.above.steps import MAX_STEPPED
from formrings.base.changes import is_short_change
from formrings.base.checks import is_between, is_short_integer
from formrings.base.integers import is_prime
from formrings.errors import Refused, UnknownName
from formrings.form.forms import Form, form_discriminant, form_led, form_of
from formrings.led.least import are_within_digits
from formrings.led.moves import least_of
from formrings.prime.residues import kind_of

LONGEST_NAME = 8
GREATEST_INDEX = 20
GREATEST_AT = 100
LETTERS = "abcdefghijklmnopqrstuvwxyz"
KINDS = ("all", "three", "pair", "none", "twice", "thrice")
# The number of members of each saying and of each deed, the word included, and how many of a saying's are names.
SAYINGS = {"alike": 3, "below": 4, "discriminant": 3, "greatest": 2, "kind": 4}
NAMED = {"alike": 2, "below": 2, "discriminant": 1, "greatest": 1, "kind": 1}
DEEDS = {"put": 3, "take": 2, "lead": 3, "least": 2, "up": 4, "down": 4}


def is_name(value):
    """Whether the value is a string of one to eight small letters."""
    return isinstance(value, str) and 1 <= len(value) <= LONGEST_NAME and all([sign in LETTERS for sign in value])


def word_of(value):
    """The string that a tuple begins with, or None."""
    if not isinstance(value, tuple) or len(value) == 0 or not isinstance(value[0], str):
        return None
    return value[0]


def is_small_prime(value):
    """Whether the value is a prime from 2 to GREATEST_AT."""
    return is_between(value, 2, GREATEST_AT) and is_prime(value)


def names_of(saying):
    """The names in a saying."""
    return saying[1:1 + NAMED[saying[0]]]


def is_saying(value):
    """Whether the value has the form of a saying."""
    word = word_of(value)
    if word not in SAYINGS or len(value) != SAYINGS[word] or not all([is_name(name) for name in names_of(value)]):
        return False
    if word == "below":
        return is_between(value[3], 1, GREATEST_INDEX)
    if word == "discriminant":
        return is_short_integer(value[2])
    if word == "kind":
        return is_small_prime(value[2]) and isinstance(value[3], str) and value[3] in KINDS
    return True


def is_deed(value):
    """Whether the value is a deed."""
    word = word_of(value)
    if word not in DEEDS or len(value) != DEEDS[word] or not is_name(value[1]):
        return False
    if word == "put":
        return isinstance(value[2], Form) and are_within_digits(value[2].coefficients)
    if word == "lead":
        return is_short_change(value[2])
    if word == "up" or word == "down":
        return is_small_prime(value[2]) and is_place(value[3], value[2])
    return True


def are_alike(one, other):
    """Whether forms with these coefficients are led to one another."""
    return form_discriminant(one) == form_discriminant(other) and least_of(one) == least_of(other)


def is_below(one, other, index):
    """Whether the ring of the other form has one within it that has this index, and whose form is alike to one."""
    if form_discriminant(one) != form_discriminant(other) * index * index:
        return False
    least = least_of(one)
    for table in tables_of(other, index):
        if least_of(by_table(other, table)) == least:
            return True
    return False


def is_top(coefficients):
    """Whether the discriminant is within the bounds of the steps, and the ring greatest."""
    number = form_discriminant(coefficients)
    return number != 0 and abs(number) <= MAX_STEPPED and first_bar(coefficients) is None


def holds(forms, saying):
    """Whether a saying is true of the forms, which have its names."""
    word = saying[0]
    found = [forms[name].coefficients for name in names_of(saying)]
    if word == "alike":
        return are_alike(found[0], found[1])
    if word == "below":
        return is_below(found[0], found[1], saying[3])
    if word == "discriminant":
        return form_discriminant(found[0]) == saying[2]
    if word == "greatest":
        return is_top(found[0])
    return kind_of(found[0], saying[2]) == saying[3]


def stepped(coefficients, deed, at):
    """The coefficients behind a step up or down: Refused if the place is not one for it."""
    word, _, prime, place = deed
    if word == "up" and is_heavy_at(coefficients, prime, place):
        return form_around(coefficients, prime, place)
    if word == "down" and is_root_at(coefficients, prime, place):
        return form_within(coefficients, prime, place)
    raise Refused(("place", at))


def made_of(coefficients, deed, at):
    """The coefficients that a deed makes of those of a form, where it is the deed at this index."""
    if deed[0] == "lead":
        return form_led(coefficients, deed[2])
    if deed[0] == "least":
        return least_of(coefficients)
    return stepped(coefficients, deed, at)


def do_deed(forms, deed, at):
    """Change the dict of the forms as the deed at this index says."""
    name = deed[1]
    if deed[0] == "put":
        forms[name] = deed[2]
        return
    if name not in forms:
        raise UnknownName(name)
    if deed[0] == "take":
        del forms[name]
        return
    made = made_of(forms[name].coefficients, deed, at)
    if not are_within_digits(made):
        raise Refused(("great", at))
    forms[name] = form_of(made)
