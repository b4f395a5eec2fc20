"""Plans that are found for a kind, by a search through all normal plans [5.1]."""

from math import comb

from teamtells.base.kinds import need_kind
from teamtells.base.values import need_number
from teamtells.errors import TooMany
from teamtells.plans.plans import MAX_THREADS, Plan
from teamtells.plans.sights import Sights, View
from teamtells.plans.telling import is_confusion, tells

MAX_CANDIDATES = 20000


def _need_kind_and_threads(kind, threads):
    need_kind(kind)
    need_number(threads, 2, MAX_THREADS)


def _need_few_candidates(kind, threads):
    """Raise TooMany if there are too many candidates to go through."""
    if _many_candidates(kind, threads) > MAX_CANDIDATES:
        raise TooMany(MAX_CANDIDATES)


def _many_candidates(kind, threads):
    """How many candidates there are."""
    many = 0
    for few in range(1, threads // 2 + 1):
        low = _many_teams(kind, few)
        # Of two teams as great as each other, the normal plan has the lesser one first.
        many = many + (low * (low + 1) // 2 if 2 * few == threads else low * _many_teams(kind, threads - few))
    return many * kind.size


def _many_teams(kind, threads):
    """How many ascending teams of so many threads there are, with equal ones."""
    return comb(len(kind) + threads - 1, threads)


def _teams(kind, threads):
    """All ascending teams of so many threads, with equal ones, ascending."""
    teams = [()]
    for _ in range(threads):
        teams = [(*team, name) for team in teams for name in kind.names if team[-1:] <= (name,)]
    return teams


def candidates(kind, threads):
    """All candidates, in their order."""
    _need_kind_and_threads(kind, threads)
    for start in range(kind.size):
        for few in range(1, threads // 2 + 1):
            seconds = _teams(kind, threads - few)
            for first in _teams(kind, few):
                for second in seconds:
                    if 2 * few < threads or first <= second:
                        yield Plan(kind, start, first, second)


def count_candidates(kind, threads):
    """How many candidates there are."""
    _need_kind_and_threads(kind, threads)
    return _many_candidates(kind, threads)


def telling_plans(kind, threads):
    """The candidates that tell, in their order."""
    _need_kind_and_threads(kind, threads)
    _need_few_candidates(kind, threads)
    sights = Sights(kind)
    for plan in candidates(kind, threads):
        if View(plan, sights).tells():
            yield plan


def first_plan(kind, threads):
    """The first candidate that tells, or None."""
    for plan in telling_plans(kind, threads):
        return plan
    return None


def can_agree(kind, threads):
    """Whether there is a candidate that tells."""
    return first_plan(kind, threads) is not None


def plan_paper(kind, threads):
    """A paper that there is a plan that tells, or that there is none."""
    plan = first_plan(kind, threads)
    if plan is not None:
        return "plan", plan
    sights = Sights(kind)
    return "none", tuple([View(candidate, sights).confusion() for candidate in candidates(kind, threads)])


def is_plan_paper(kind, threads, value):
    """Whether the value is such a paper."""
    _need_kind_and_threads(kind, threads)
    if not isinstance(value, tuple) or len(value) != 2:
        return False
    if value[0] == "plan":
        return is_telling_plan(kind, threads, value[1])
    return value[0] == "none" and are_confusions(kind, threads, value[1])


def is_telling_plan(kind, threads, value):
    """Whether the value is a plan of the kind for so many threads that tells."""
    return isinstance(value, Plan) and value.kind == kind and len(value) == threads and tells(value)


def are_confusions(kind, threads, value):
    """Whether the value is a tuple of a confusion for each candidate."""
    if not isinstance(value, tuple) or len(value) != _many_candidates(kind, threads):
        return False
    for place, plan in enumerate(candidates(kind, threads)):
        if not is_confusion(plan, value[place]):
            return False
    return True


def greatest_plans(kind, threads):
    """The candidates that tell, and that do not with any thread more, in their order."""
    need_kind(kind)
    need_number(threads, 2, MAX_THREADS - 1)
    _need_few_candidates(kind, threads + 1)
    sights = Sights(kind)
    return tuple([plan for plan in telling_plans(kind, threads) if not _can_grow(plan, sights)])


def _can_grow(plan, sights):
    """Whether the plan still tells with one more thread of some team and operation."""
    for team in (0, 1):
        for name in plan.kind.names:
            if View(plan.more(team, name), sights).tells():
                return True
    return False
