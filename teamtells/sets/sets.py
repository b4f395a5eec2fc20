"""Several kinds: threads can agree by them exactly if they can by one of them [13.1]."""

from teamtells.base.kinds import Kind, need_kind
from teamtells.base.values import is_number_in, need_count, need_number
from teamtells.errors import InvalidKind, InvalidOperation, NothingToUndo, TooMany
from teamtells.plans.plans import MAX_THREADS
from teamtells.search.found import can_agree, is_plan_paper, is_telling_plan, plan_paper
from teamtells.search.levels import level_of
from teamtells.systems.programs import need_system

MAX_TOGETHER = 6


def _need_kinds(value):
    """Raise InvalidKind if the value is no tuple of one to six kinds."""
    if not isinstance(value, tuple) or not 1 <= len(value) <= MAX_TOGETHER:
        raise InvalidKind("not a tuple of one to six kinds")
    if not all([isinstance(kind, Kind) for kind in value]):
        raise InvalidKind("not a tuple of kinds")


def _need_kinds_and_threads(kinds, threads):
    _need_kinds(kinds)
    need_number(threads, 2, MAX_THREADS)


def _levels(kinds, most):
    """The levels of all kinds, in their order."""
    _need_kinds(kinds)
    return [level_of(kind, most=most) for kind in kinds]


def best_level(kinds, *, most=4):
    """The greatest level of the kinds, None if one is endless."""
    levels = _levels(kinds, most)
    return None if None in levels else max(levels)


def level_classes(kinds, *, most=4):
    """The pairs of a level and the indices of all kinds that have it, ascending, endless ones at last."""
    levels = _levels(kinds, most)
    different = sorted({level for level in levels if level is not None})
    if None in levels:
        different.append(None)
    return tuple([(level, _places(levels, level)) for level in different])


def _places(values, value):
    """The indices at which a value stands, ascending."""
    return tuple([place for place, other in enumerate(values) if other == value])


def can_agree_by(kinds, threads):
    """Whether so many threads can agree by the kinds."""
    return len(sufficient(kinds, threads)) > 0


def sufficient(kinds, threads):
    """The indices of the kinds that have a telling plan for so many threads, ascending."""
    _need_kinds_and_threads(kinds, threads)
    return _places([can_agree(kind, threads) for kind in kinds], True)


def _papers(kinds, threads):
    """A paper of each kind that it has a telling plan or none, the same one for equal kinds."""
    papers = []
    for place, kind in enumerate(kinds):
        first = kinds.index(kind)
        papers.append(papers[first] if first < place else plan_paper(kind, threads))
    return papers


def agreement_paper(kinds, threads):
    """A paper that so many threads can agree by the kinds, or that they cannot."""
    _need_kinds_and_threads(kinds, threads)
    papers = _papers(kinds, threads)
    for place, (word, found) in enumerate(papers):
        if word == "plan":
            return "plan", place, found
    return "none", tuple(papers)


def is_agreement_paper(kinds, threads, value):
    """Whether the value is such a paper."""
    _need_kinds_and_threads(kinds, threads)
    if not isinstance(value, tuple):
        return False
    if len(value) == 3 and value[0] == "plan":
        return is_number_in(value[1], 0, len(kinds) - 1) and is_telling_plan(kinds[value[1]], threads, value[2])
    return len(value) == 2 and value[0] == "none" and _are_none_papers(kinds, threads, value[1])


def _are_none_papers(kinds, threads, value):
    """Whether the value is a tuple of a paper of each kind that it has no telling plan."""
    if not isinstance(value, tuple) or len(value) != len(kinds):
        return False
    for kind, paper in zip(kinds, value):
        if not is_plan_paper(kind, threads, paper) or paper[0] != "none":
            return False
    return True


def _kinds_of(system):
    """The kinds of all objects, in their order."""
    return tuple([kind for kind, _ in system.objects])


def hopeless_paper(system):
    """A paper that no kind of the objects has a telling plan for as many threads as the system has."""
    need_system(system)
    if len(system) == 1:
        raise InvalidOperation("one thread can always agree")
    papers = _papers(_kinds_of(system), len(system))
    if any([word == "plan" for word, _ in papers]):
        raise InvalidOperation("the system is not hopeless")
    return tuple(papers)


def is_hopeless_paper(system, value):
    """Whether the value is such a paper."""
    need_system(system)
    return len(system) > 1 and _are_none_papers(_kinds_of(system), len(system), value)


class Choice:
    """Kinds that are put together until so many threads can agree."""

    def __init__(self, threads):
        need_number(threads, 2, MAX_THREADS)
        self._goal = threads
        self._kinds = ()
        # For each kind whether it has a telling plan for so many threads.
        self._able = ()
        self._past = []

    @property
    def kinds(self):
        """All kinds, in the order in which they were put."""
        return self._kinds

    @property
    def goal(self):
        """The number of threads."""
        return self._goal

    @property
    def leader(self):
        """The index of the first kind that has a telling plan, or None."""
        return self._able.index(True) if True in self._able else None

    def put(self, kind):
        """Add a kind; whether the threads can agree now."""
        need_kind(kind)
        if len(self._kinds) == MAX_TOGETHER:
            raise TooMany(MAX_TOGETHER)
        return self._changed((*self._kinds, kind), (*self._able, can_agree(kind, self._goal)))

    def drop(self, index):
        """Take a kind away; whether the threads can agree now."""
        need_number(index, 0, len(self._kinds) - 1)
        kinds = self._kinds[:index] + self._kinds[index + 1:]
        return self._changed(kinds, self._able[:index] + self._able[index + 1:])

    def undo(self, *, many=1):
        """Take the last changes back; whether the threads can agree then."""
        need_count(many)
        if many > len(self._past):
            raise NothingToUndo(many)
        for _ in range(many):
            self._kinds, self._able = self._past.pop()
        return True in self._able

    def twin(self):
        """An equal one with an equal past that goes on by itself."""
        other = Choice(self._goal)
        other._kinds = self._kinds
        other._able = self._able
        other._past = list(self._past)
        return other

    def _changed(self, kinds, able):
        """Go on to other kinds; whether the threads can agree by them."""
        self._past.append((self._kinds, self._able))
        self._kinds = kinds
        self._able = able
        return True in able

    def __bool__(self):
        return True in self._able

    def __len__(self):
        return len(self._kinds)

    def __eq__(self, other):
        return isinstance(other, Choice) and self._goal == other._goal and self._kinds == other._kinds

    def __str__(self):
        return f"choice for {self._goal} threads: {len(self._kinds)} kinds"
