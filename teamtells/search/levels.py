"""Levels of kinds: endless plans [6.1], and the greatest number of threads for which a kind has a telling plan."""

from teamtells.base.kinds import need_kind
from teamtells.base.values import is_number_in, need_number
from teamtells.errors import InvalidOperation, UnknownName
from teamtells.plans.plans import MAX_THREADS
from teamtells.search.found import are_confusions, first_plan, is_telling_plan, plan_paper
from teamtells.search.words import are_confused_words, confused_words, rows_of


def _triples(kind):
    """All triples (start, one, other) of a state and two operations, ascending."""
    return [(start, one, other) for start in range(kind.size) for one in kind.names for other in kind.names]


def _is_endless_plan(kind, triple):
    return confused_words(rows_of(kind, triple[1], triple[2]), triple[0]) is None


def _first_endless_plan(kind):
    """The first endless plan, or None."""
    for triple in _triples(kind):
        if _is_endless_plan(kind, triple):
            return triple
    return None


def endless_plans(kind):
    """All endless plans, ascending."""
    need_kind(kind)
    return tuple([triple for triple in _triples(kind) if _is_endless_plan(kind, triple)])


def is_endless(kind):
    """Whether there is an endless plan."""
    need_kind(kind)
    return _first_endless_plan(kind) is not None


def _need_triple(kind, start, one, other):
    need_kind(kind)
    need_number(start, 0, kind.size - 1)
    for name in (one, other):
        if name not in kind:
            raise UnknownName(name)


def endless_confusion(kind, start, one, other):
    """An endless confusion."""
    _need_triple(kind, start, one, other)
    found = confused_words(rows_of(kind, one, other), start)
    if found is None:
        raise InvalidOperation("this is an endless plan")
    return found


def is_endless_confusion(kind, start, one, other, value):
    """Whether the value is an endless confusion."""
    _need_triple(kind, start, one, other)
    return are_confused_words(rows_of(kind, one, other), start, value)


def level_of(kind, *, most=4):
    """The level of the kind, looked for up to so many threads; None if it is endless."""
    need_kind(kind)
    need_number(most, 2, MAX_THREADS)
    if is_endless(kind):
        return None
    return _greatest(kind, most)[0]


def _greatest(kind, most):
    """The pair of the greatest number of threads, up to so many, with a telling plan, and such a plan."""
    best = None
    for threads in range(2, most + 1):
        plan = first_plan(kind, threads)
        if plan is None:
            return threads - 1, best
        best = plan
    return most, best


def level_paper(kind, *, most=4):
    """A paper of the level of the kind."""
    need_kind(kind)
    need_number(most, 2, MAX_THREADS)
    triple = _first_endless_plan(kind)
    if triple is not None:
        return "endless", triple
    number, plan = _greatest(kind, most)
    if number < most:
        return "just", number, plan, plan_paper(kind, number + 1)[1]
    words = [confused_words(rows_of(kind, one, other), start) for start, one, other in _triples(kind)]
    return "at least", plan, tuple(words)


def is_level_paper(kind, value, *, most=4):
    """Whether the value is such a paper."""
    need_kind(kind)
    need_number(most, 2, MAX_THREADS)
    if not isinstance(value, tuple):
        return False
    if len(value) == 2 and value[0] == "endless":
        return _is_triple(kind, value[1]) and _is_endless_plan(kind, value[1])
    if len(value) == 4 and value[0] == "just":
        return _is_just(kind, value[1], value[2], value[3], most)
    if len(value) == 3 and value[0] == "at least":
        return is_telling_plan(kind, most, value[1]) and _are_endless_confusions(kind, value[2])
    return False


def _is_triple(kind, value):
    """Whether the value is a triple (start, one, other) of the kind."""
    if not isinstance(value, tuple) or len(value) != 3:
        return False
    return is_number_in(value[0], 0, kind.size - 1) and value[1] in kind and value[2] in kind


def _is_just(kind, number, plan, confusions, most):
    """Whether a plan and confusions show that just so many threads, less than the most, can agree."""
    if not is_number_in(number, 1, most - 1):
        return False
    has_plan = plan is None if number == 1 else is_telling_plan(kind, number, plan)
    return has_plan and are_confusions(kind, number + 1, confusions)


def _are_endless_confusions(kind, value):
    """Whether the value is a tuple of an endless confusion for each triple."""
    triples = _triples(kind)
    if not isinstance(value, tuple) or len(value) != len(triples):
        return False
    for place, (start, one, other) in enumerate(triples):
        if not are_confused_words(rows_of(kind, one, other), start, value[place]):
            return False
    return True
