"""A shell [14.3]: commands to a desk, and answers, both as texts."""

from teamtells.base.kinds import is_name
from teamtells.desk.desk import Desk
from teamtells.desk.pins import TOP_GRADE
from teamtells.errors import InvalidOperation, NothingToUndo, ParseError, Refused, TooMany, UnknownName
from teamtells.plans.plans import MAX_THREADS
from teamtells.plans.telling import confusion, tells
from teamtells.search.found import first_plan
from teamtells.text.pieces import MOST_DIGITS, is_number, number_of
from teamtells.text.texts import read_kind, read_plan, write_kind, write_plan

# The words of each command, in capitals what stands for others. The last one can have blanks if it is KIND or PLAN.
FORMS = (
    ("enter", "NAME", "KIND"), ("remove", "NAME"), ("cut", "NAME", "NAME"), ("hush", "NAME"),
    ("join", "NAME", "NAME", "NAME"),
    ("pin", "least", "NAME", "GRADE"), ("pin", "most", "NAME", "GRADE"), ("pin", "equal", "NAME", "NAME"),
    ("unpin", "least", "NAME", "GRADE"), ("unpin", "most", "NAME", "GRADE"), ("unpin", "equal", "NAME", "NAME"),
    ("undo",), ("undo", "MANY"), ("redo",), ("redo", "MANY"),
    ("grade", "NAME"), ("grades",), ("plan", "NAME", "THREADS"), ("tells", "NAME", "PLAN"), ("show", "NAME"),
    ("names",),
)
QUESTIONS = ("grade", "grades", "plan", "tells", "show", "names")


def _values_of(command):
    """The words of a command, with numbers and kinds in the place of their texts, or None if it is no command."""
    if not isinstance(command, str):
        return None
    for form in FORMS:
        parts = command.split(" ", len(form) - 1)
        if len(parts) == len(form):
            values = [_value_of(word, part) for word, part in zip(form, parts)]
            if None not in values:
                return values
    return None


def _value_of(word, part):
    """What the part of a command stands for that stands at this word of a form, or None if it cannot."""
    if word == "NAME":
        return part if is_name(part) else None
    if word == "KIND":
        return _kind_or_none(part)
    if word == "PLAN":
        return None if "" in part.split(" ") else part
    if word == "MANY":
        return number_of(part) if is_number(part) and len(part) <= MOST_DIGITS else None
    if word == "GRADE":
        return _number_or_none(part, 1, TOP_GRADE)
    if word == "THREADS":
        return _number_or_none(part, 2, MAX_THREADS)
    return part if part == word else None


def _kind_or_none(text):
    """The kind with this text, or None."""
    try:
        return read_kind(text)
    except ParseError:
        return None


def _number_or_none(text, least, most):
    """The number from least to most with this text, or None."""
    return number_of(text) if is_number(text) and least <= number_of(text) <= most else None


def _words(values):
    """The values as texts, with single blanks between them."""
    return " ".join([str(value) for value in values])


def _listed(texts, mark):
    """The texts with a mark between them, or a word that there are none."""
    return mark.join(texts) if texts else "none"


class Shell:
    """A desk that answers to commands."""

    def __init__(self):
        self._desk = Desk()
        # The commands that were answered without an error.
        self._answered = []

    def __call__(self, command):
        """The answer to a command."""
        values = _values_of(command)
        if values is None:
            return "what"
        try:
            answer = self._answer(values)
        except UnknownName as unknown:
            return f"unknown {unknown.wanted}"
        except ParseError:
            return "what"
        except Refused as refused:
            return f"refused {_words(refused.claim)}"
        except TooMany as excess:
            return f"many {excess.limit}"
        except NothingToUndo as nothing:
            return f"nothing {nothing.many}"
        except InvalidOperation:
            return "no"
        self._answered.append(command)
        return answer

    def desk(self):
        """A twin of the desk."""
        return self._desk.twin()

    def _answer(self, values):
        """The answer to a command that has the form of one."""
        word, *given = values
        if word in QUESTIONS:
            return self._told(word, given)
        return _listed([_words(change) for change in self._news(word, given)], ", ")

    def _news(self, word, given):
        """Make a change; the news."""
        if word == "enter":
            return self._desk.enter(*given)
        if word == "remove":
            return self._desk.remove(given[0])
        if word == "cut":
            return self._desk.cut_off(*given)
        if word == "hush":
            return self._desk.hush(*given)
        if word == "join":
            return self._desk.put_beside(*given)
        if word == "pin":
            return self._desk.pin(tuple(given))
        if word == "unpin":
            return self._desk.unpin(tuple(given))
        many = given[0] if given else 1
        return self._desk.undo(many=many) if word == "undo" else self._desk.redo(many=many)

    def _told(self, word, given):
        """The answer to a question, which changes nothing."""
        if word == "grades":
            return _listed([f"{name}:{grade}" for name, grade in self._desk.grades.items()], " ")
        if word == "names":
            return _listed(list(self._desk), " ")
        kind = self._desk[given[0]]
        if word == "grade":
            return str(self._desk.grades[given[0]])
        if word == "show":
            return write_kind(kind)
        if word == "plan":
            return _first_plan_text(kind, given[1])
        return _telling_text(read_plan(kind, given[1]))

    def __len__(self):
        return len(self._answered)

    def __str__(self):
        return f"shell of {len(self._answered)} commands"


def _first_plan_text(kind, threads):
    """The text of the first plan that tells, or a word that there is none."""
    plan = first_plan(kind, threads)
    return "none" if plan is None else write_plan(plan)


def _telling_text(plan):
    """That the plan tells, or the text of a confusion."""
    if tells(plan):
        return "yes"
    thread, one, other = confusion(plan)
    return f"{thread}: {_words(one)}, {_words(other)}"
