"""Which team went first, told by what threads see [0.10], or by the state alone [0.11]."""

from teamtells.base.kinds import MAX_ANSWER
from teamtells.base.values import is_number_in, need_count, need_number
from teamtells.errors import InvalidOperation, NothingToUndo
from teamtells.plans.plans import need_plan
from teamtells.plans.sights import Sights, View, all_bits, lowest_bit, view_of


def _need_thread(plan, thread):
    need_number(thread, 0, len(plan) - 1)


def seen_by(plan, thread, team):
    """The pairs (answer, state) that the thread sees behind orders that the team began, ascending."""
    need_plan(plan)
    _need_thread(plan, thread)
    need_number(team, 0, 1)
    sights = Sights(plan.kind)
    return tuple([sights.pair(bit) for bit in all_bits(View(plan, sights).pairs(thread, team))])


def tells(plan):
    """Whether the plan tells."""
    need_plan(plan)
    return view_of(plan).tells()


def confusion(plan):
    """A confusion of the plan."""
    need_plan(plan)
    found = view_of(plan).confusion()
    if found is None:
        raise InvalidOperation("the plan tells")
    return found


def is_confusion(plan, value):
    """Whether the value is a confusion of the plan."""
    need_plan(plan)
    if not isinstance(value, tuple) or len(value) != 3:
        return False
    thread, one, other = value
    if not is_number_in(thread, 0, len(plan) - 1):
        return False
    if not _is_begun_by(plan, one, 0) or not _is_begun_by(plan, other, 1):
        return False
    return thread in one and thread in other and _sight(plan, thread, one) == _sight(plan, thread, other)


def _is_begun_by(plan, value, team):
    """Whether the value is an order that the team began."""
    return plan.is_order(value) and plan.team_of(value[0]) == team


def _sight(plan, thread, order):
    """The pair (answer, state) that the thread sees behind an order."""
    state, answers = plan.played(order)
    return answers[thread], state


def first_team(plan, thread, answer, state):
    """The team that has begun an order behind which the thread sees this."""
    need_plan(plan)
    _need_thread(plan, thread)
    if is_number_in(answer, 0, MAX_ANSWER) and is_number_in(state, 0, plan.kind.size - 1):
        sights = Sights(plan.kind)
        view = View(plan, sights)
        bit = sights.bit(answer, state)
        teams = [team for team in (0, 1) if view.pairs(thread, team) >> bit & 1]
        if len(teams) == 1:
            return teams[0]
    raise InvalidOperation("the thread sees this behind no order, or behind orders of both teams")


def states_behind(plan, team):
    """The states behind the orders that the team began, ascending."""
    need_plan(plan)
    need_number(team, 0, 1)
    return tuple(all_bits(view_of(plan).states(team)))


def records(plan):
    """Whether the plan records."""
    need_plan(plan)
    return _mixture_or_none(plan) is None


def mixture(plan):
    """A paper that the plan does not record."""
    need_plan(plan)
    found = _mixture_or_none(plan)
    if found is None:
        raise InvalidOperation("the plan records")
    return found


def _mixture_or_none(plan):
    """A paper that the plan does not record, or None if it does."""
    view = view_of(plan)
    states = (view.states(0), view.states(1))
    for team in (0, 1):
        if states[team] >> plan.start & 1:
            return "back", view.order_to(plan.start, team)
    common = states[0] & states[1]
    if not common:
        return None
    state = lowest_bit(common)
    return "both", view.order_to(state, 0), view.order_to(state, 1)


def is_mixture(plan, value):
    """Whether the value is a paper that the plan does not record."""
    need_plan(plan)
    if not isinstance(value, tuple):
        return False
    if len(value) == 2 and value[0] == "back":
        return plan.is_order(value[1]) and plan.played(value[1])[0] == plan.start
    if len(value) != 3 or value[0] != "both":
        return False
    if not _is_begun_by(plan, value[1], 0) or not _is_begun_by(plan, value[2], 1):
        return False
    return plan.played(value[1])[0] == plan.played(value[2])[0]


class Watch:
    """Threads of a plan that do their operations one by one."""

    def __init__(self, plan):
        need_plan(plan)
        self._plan = plan
        self._sights = Sights(plan.kind)
        self._order = []
        self._answers = []
        self._states = [plan.start]

    @property
    def order(self):
        """The threads that did their operations, in order."""
        return tuple(self._order)

    @property
    def state(self):
        """The state of the object now."""
        return self._states[-1]

    def go(self, thread):
        """Let a thread do its operation; its answer."""
        _need_thread(self._plan, thread)
        if thread in self._order:
            raise InvalidOperation("the thread did its operation already")
        state, answer = self._plan.kind.after(self._states[-1], self._plan.threads[thread])
        self._order.append(thread)
        self._answers.append(answer)
        self._states.append(state)
        return answer

    def told(self, thread):
        """The team that the thread knows to have gone first, or None if it cannot tell."""
        _need_thread(self._plan, thread)
        if thread not in self._order:
            raise InvalidOperation("the thread did not do its operation yet")
        bit = self._sights.bit(self._answers[self._order.index(thread)], self._states[-1])
        if View(self._plan, self._sights).unclear(thread) >> bit & 1:
            return None
        return self._plan.team_of(self._order[0])

    def undo(self, *, many=1):
        """Take the last operations back; their threads, the last one first."""
        need_count(many)
        if many > len(self._order):
            raise NothingToUndo(many)
        back = []
        for _ in range(many):
            back.append(self._order.pop())
            self._answers.pop()
            self._states.pop()
        return tuple(back)

    def twin(self):
        """An equal one that goes on by itself."""
        other = Watch(self._plan)
        for thread in self._order:
            other.go(thread)
        return other

    def __len__(self):
        return len(self._order)

    def __eq__(self, other):
        return isinstance(other, Watch) and self._plan == other._plan and self._order == other._order

    def __str__(self):
        who = " ".join([str(thread) for thread in self._order]) if self._order else "nobody"
        return f"watch: {who} in state {self._states[-1]}"
