"""A desk [14.1]: kinds by names, and pins about their grades that hold at all times."""

from teamtells.base.kinds import beside, is_name, need_kind
from teamtells.base.values import need_count
from teamtells.desk.pins import grade_of, holds, is_pin, news_between
from teamtells.errors import InvalidOperation, InvalidWord, NothingToUndo, Refused, TooMany, UnknownName

MAX_KINDS = 8
MAX_PINS = 8
# How many arguments each change takes.
CHANGES = {"cut_off": 2, "enter": 2, "hush": 1, "pin": 1, "put_beside": 3, "remove": 1, "unpin": 1}


def _need_word(name):
    """Raise InvalidWord if this is no name."""
    if not is_name(name):
        raise InvalidWord("not a name")


def _is_change(value):
    """Whether the value is a tuple of the name of a change and as many arguments as it takes."""
    if not isinstance(value, tuple) or len(value) == 0 or not isinstance(value[0], str):
        return False
    return value[0] in CHANGES and len(value) == CHANGES[value[0]] + 1


class Desk:
    """Kinds by names, and pins. Each change makes new dicts, so that histories can keep those from before."""

    def __init__(self):
        self._kinds = {}
        self._grades = {}
        self._pins = ()
        self._past = []
        self._future = []

    @property
    def kinds(self):
        """A dict from names to kinds."""
        return dict(self._kinds)

    @property
    def grades(self):
        """A dict from names to grades."""
        return dict(self._grades)

    @property
    def pins(self):
        """All pins, in the order in which they were pinned."""
        return self._pins

    def enter(self, name, kind):
        """Add or replace a kind; the news."""
        _need_word(name)
        need_kind(kind)
        return self._entered(name, kind)

    def remove(self, name):
        """Take a kind away; the news."""
        self._need_known(name)
        return self._changed({kept: self._kinds[kept] for kept in self._kinds if kept != name}, self._pins)

    def cut_off(self, name, operation):
        """Replace a kind by the one without an operation; the news."""
        return self._entered(name, self[name].without(operation))

    def hush(self, name):
        """Replace a kind by the one without answers; the news."""
        return self._entered(name, self[name].silent())

    def put_beside(self, name, one, other):
        """Enter the kind with the states of two others side by side; the news."""
        _need_word(name)
        return self._entered(name, beside(self[one], self[other]))

    def pin(self, pin):
        """Add a pin; no news."""
        if not is_pin(pin, self._kinds) or pin in self._pins:
            raise InvalidOperation("not a pin about names that are there, or there already")
        if len(self._pins) == MAX_PINS:
            raise TooMany(MAX_PINS)
        return self._changed(self._kinds, (*self._pins, pin))

    def unpin(self, pin):
        """Take a pin away; no news."""
        if not is_pin(pin, self._kinds) or pin not in self._pins:
            raise InvalidOperation("not a pin that is there")
        return self._changed(self._kinds, tuple([kept for kept in self._pins if kept != pin]))

    def trial(self, *changes):
        """What changes one behind the other would return, without effect."""
        if not all([_is_change(change) for change in changes]):
            raise InvalidOperation("not the name of a change and its arguments")
        other = self.twin()
        return tuple([other.done(change) for change in changes])

    def done(self, change):
        """Make a change that is given by its name and its arguments; what it returns."""
        word, *given = change
        if word == "enter":
            return self.enter(*given)
        if word == "remove":
            return self.remove(given[0])
        if word == "cut_off":
            return self.cut_off(*given)
        if word == "hush":
            return self.hush(*given)
        if word == "put_beside":
            return self.put_beside(*given)
        if word == "pin":
            return self.pin(*given)
        return self.unpin(*given)

    def undo(self, *, many=1):
        """Take the last changes back; the news."""
        return self._moved(self._past, self._future, many)

    def redo(self, *, many=1):
        """Make changes again that were taken back; the news."""
        return self._moved(self._future, self._past, many)

    def twin(self):
        """An equal desk with equal histories that goes on by itself."""
        other = Desk()
        other._go_to(self._board())
        other._past = list(self._past)
        other._future = list(self._future)
        return other

    def _need_known(self, name):
        if name not in self:
            raise UnknownName(name)

    def _entered(self, name, kind):
        """Add or replace a kind, whose name is one; the news."""
        return self._changed({**self._kinds, name: kind}, self._pins)

    def _changed(self, kinds, pins):
        """Go on to other kinds and pins; the news."""
        if not all([is_pin(pin, kinds) for pin in pins]):
            raise InvalidOperation("a pin would name what is not there")
        if len(kinds) > MAX_KINDS:
            raise TooMany(MAX_KINDS)
        grades = {name: self._grade(name, kinds[name]) for name in sorted(kinds)}
        for pin in pins:
            if not holds(pin, grades):
                raise Refused(pin)
        news = news_between(self._grades, grades)
        self._past.append(self._board())
        self._future = []
        self._go_to(({name: kinds[name] for name in grades}, grades, pins))
        return news

    def _grade(self, name, kind):
        """The grade of a kind, which is known already if the name has it now."""
        if name in self and self._kinds[name] == kind:
            return self._grades[name]
        return grade_of(kind)

    def _board(self):
        """All that undo and redo bring back."""
        return self._kinds, self._grades, self._pins

    def _go_to(self, board):
        self._kinds, self._grades, self._pins = board

    def _moved(self, source, target, many):
        """Go to the board that is so many back in one history, and keep those on the way in the other; the news."""
        need_count(many)
        if many > len(source):
            raise NothingToUndo(many)
        before = self._grades
        for _ in range(many):
            target.append(self._board())
            self._go_to(source.pop())
        return news_between(before, self._grades)

    def __getitem__(self, at):
        self._need_known(at)
        return self._kinds[at]

    def __contains__(self, x):
        # What is no string may be no key at all, such as a list.
        return isinstance(x, str) and x in self._kinds

    def __iter__(self):
        return iter(self._kinds)

    def __len__(self):
        return len(self._kinds)

    def __eq__(self, other):
        return isinstance(other, Desk) and self._kinds == other._kinds and self._pins == other._pins

    def __str__(self):
        return f"desk of {len(self._kinds)} kinds, {len(self._pins)} pins"
