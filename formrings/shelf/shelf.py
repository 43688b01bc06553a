"""Shelves, which keep forms by names, and sayings that are always true."""

from formrings.base.checks import is_short_integer
from formrings.errors import InvalidNumber, InvalidOperation, NothingToUndo, Refused, TooMany, UnknownName
from formrings.shelf.told import do_deed, holds, is_deed, is_name, is_saying, names_of

MAX_NAME = 8
MAX_SAID = 20
MAX_DIGITS = 20


def has_names(forms, saying):
    """Whether the forms have all names of a saying."""
    return all([name in forms for name in names_of(saying)])


def check_sayings(before, forms, sayings):
    """Refuse forms that take a name away from a saying, or break one that was true before."""
    for saying in sayings:
        if not has_names(forms, saying):
            raise Refused(("taken", saying))
    for saying in sayings:
        # What is said of forms that stay is still true.
        stays = all([forms[name] == before[name] for name in names_of(saying)])
        if not stays and not holds(forms, saying):
            raise Refused(("broken", saying))


class Shelf:
    """A shelf of forms. It changes; the dicts and tuples that it has do not, but are replaced."""

    def __init__(self):
        # The names stand in ascending sequence.
        self._forms = {}
        self._sayings = ()
        # The forms and the sayings ahead of each step.
        self._steps = []

    @property
    def forms(self):
        """The dict from the names to the forms."""
        return dict(self._forms)

    @property
    def sayings(self):
        """The tuple of the sayings."""
        return self._sayings

    @property
    def past(self):
        """The number of the steps that can be taken back."""
        return len(self._steps)

    def _turn_to(self, forms, sayings):
        """Have these forms and sayings from now on, which is a step if one of them is another."""
        if forms == self._forms and sayings == self._sayings:
            return
        self._steps.append((self._forms, self._sayings))
        self._forms = {name: forms[name] for name in sorted(list(forms))}
        self._sayings = sayings

    def do(self, *deeds):
        """Do the deeds, one after the other."""
        if not all([is_deed(deed) for deed in deeds]):
            raise InvalidOperation("one of them is no deed")
        forms = dict(self._forms)
        for at, deed in enumerate(deeds):
            do_deed(forms, deed, at)
        check_sayings(self._forms, forms, self._sayings)
        self._turn_to(forms, self._sayings)

    def say(self, saying):
        """Keep a saying."""
        if not is_saying(saying):
            raise InvalidOperation("this is no saying")
        for name in names_of(saying):
            if name not in self._forms:
                raise UnknownName(name)
        if saying in self._sayings:
            return
        if len(self._sayings) >= MAX_SAID:
            raise TooMany(MAX_SAID)
        if not holds(self._forms, saying):
            raise Refused(("false",))
        self._turn_to(self._forms, self._sayings + (saying,))

    def unsay(self, saying):
        """Keep the saying no more."""
        # True is equal to 1, but no saying has it.
        if not is_saying(saying) or saying not in self._sayings:
            raise UnknownName(saying)
        self._turn_to(self._forms, tuple([kept for kept in self._sayings if kept != saying]))

    def is_true(self, value):
        """Whether the value is a saying, with names of the shelf, that is true now."""
        return is_saying(value) and has_names(self._forms, value) and holds(self._forms, value)

    def undo(self, steps=1):
        """Take back the last steps."""
        if not is_short_integer(steps) or steps < 1:
            raise InvalidNumber(steps)
        if steps > len(self._steps):
            raise NothingToUndo(steps)
        self._forms, self._sayings = self._steps[-steps]
        self._steps = self._steps[:-steps]

    def twin(self):
        """Another shelf with the same forms, sayings and steps."""
        other = Shelf()
        other._forms = dict(self._forms)
        other._sayings = self._sayings
        other._steps = list(self._steps)
        return other

    def __contains__(self, value):
        return is_name(value) and value in self._forms

    def __getitem__(self, name):
        if not is_name(name) or name not in self._forms:
            raise UnknownName(name)
        return self._forms[name]

    def __iter__(self):
        return iter(self._forms)

    def __len__(self):
        return len(self._forms)

    def __eq__(self, other):
        return isinstance(other, Shelf) and self._forms == other._forms and self._sayings == other._sayings

    def __str__(self):
        return f"shelf: {len(self._forms)} forms, {len(self._sayings)} sayings"
