"""Plans [0.9]: a kind, a start, and two teams of threads that do one operation each."""

from teamtells.base.kinds import is_map, need_kind
from teamtells.base.values import is_number_in, need_number
from teamtells.errors import InvalidOperation, InvalidPlan, TooMany, UnknownName

MAX_THREADS = 6


def need_plan(value):
    """Raise InvalidPlan if the value is no plan."""
    if not isinstance(value, Plan):
        raise InvalidPlan("not a plan")


def _is_team(value, kind):
    """Whether the value is a tuple of one or more operations of the kind."""
    if not isinstance(value, tuple) or len(value) == 0:
        return False
    return all([name in kind for name in value])


class Plan:
    """Two teams of threads, and the object on which each thread does its operation. It never changes."""

    def __init__(self, kind, start, first, second):
        need_kind(kind)
        if not is_number_in(start, 0, kind.size - 1):
            raise InvalidPlan("the start is no state of the kind")
        if not _is_team(first, kind) or not _is_team(second, kind) or len(first) + len(second) > MAX_THREADS:
            raise InvalidPlan("not two teams of operations, of 2 to 6 threads together")
        self._kind = kind
        self._start = start
        self._teams = (first, second)
        self._threads = first + second

    @property
    def kind(self):
        """The kind of the object."""
        return self._kind

    @property
    def start(self):
        """The state in which the object is at first."""
        return self._start

    @property
    def teams(self):
        """The pair of the operations of both teams."""
        return self._teams

    @property
    def threads(self):
        """The operations of all threads, those of the first team ahead."""
        return self._threads

    def team_of(self, thread):
        """The team of a thread."""
        need_number(thread, 0, len(self._threads) - 1)
        return 0 if thread < len(self._teams[0]) else 1

    def is_order(self, value):
        """Whether the value is an order of the plan."""
        if not isinstance(value, tuple) or len(value) == 0:
            return False
        if not all([is_number_in(thread, 0, len(self._threads) - 1) for thread in value]):
            return False
        return len(set(value)) == len(value)

    def orders(self, *, team=None):
        """All orders, or those that the team began, by their lengths and then ascending."""
        if team is not None:
            need_number(team, 0, 1)
        threads = range(len(self._threads))
        rows = [(thread,) for thread in threads if team is None or self.team_of(thread) == team]
        while rows:
            yield from rows
            rows = [(*order, thread) for order in rows for thread in threads if thread not in order]

    def played(self, order):
        """The pair of the state behind an order, and a dict from its threads to their answers."""
        if not self.is_order(order):
            raise InvalidOperation("not an order of the plan")
        state = self._start
        answers = {}
        for thread in order:
            state, answers[thread] = self._kind.after(state, self._threads[thread])
        return state, {thread: answers[thread] for thread in sorted(order)}

    def fewer(self, thread):
        """The plan without a thread."""
        team = self.team_of(thread)
        names = self._teams[team]
        if len(names) == 1:
            raise InvalidOperation("the only thread of its team")
        place = thread - team * len(self._teams[0])
        return self._with_team(team, names[:place] + names[place + 1:])

    def more(self, team, name):
        """The plan with one more thread, the last one of its team."""
        need_number(team, 0, 1)
        if name not in self._kind:
            raise UnknownName(name)
        if len(self._threads) == MAX_THREADS:
            raise TooMany(MAX_THREADS)
        return self._with_team(team, (*self._teams[team], name))

    def exchanged(self):
        """The plan with the teams exchanged."""
        return Plan(self._kind, self._start, self._teams[1], self._teams[0])

    def normal(self):
        """The normal plan [0.12] with the same operations."""
        low, high = sorted([(len(team), tuple(sorted(team))) for team in self._teams])
        return Plan(self._kind, self._start, low[1], high[1])

    def is_normal(self):
        """Whether the plan is normal [0.12]."""
        return self._teams == self.normal().teams

    def renamed(self, names):
        """The plan for the kind with other names, by a dict from old names to new ones."""
        kind = self._kind.renamed(names)
        first, second = [tuple([names.get(name, name) for name in team]) for team in self._teams]
        return Plan(kind, self._start, first, second)

    def turned(self, numbers):
        """The plan for the kind in which state s has the number numbers[s]."""
        kind = self._kind.turned(numbers)
        return Plan(kind, numbers[self._start], self._teams[0], self._teams[1])

    def mapped(self, other, value):
        """The plan for another kind and a map to it, which takes the start along."""
        need_kind(other)
        if not is_map(self._kind, other, value):
            raise InvalidOperation("not a map to the other kind")
        return Plan(other, value[self._start], self._teams[0], self._teams[1])

    def _with_team(self, team, names):
        """The plan with these operations for a team."""
        if team == 0:
            return Plan(self._kind, self._start, names, self._teams[1])
        return Plan(self._kind, self._start, self._teams[0], names)

    def __len__(self):
        return len(self._threads)

    def __eq__(self, other):
        if not isinstance(other, Plan):
            return False
        return self._kind == other._kind and self._start == other._start and self._teams == other._teams

    def __str__(self):
        first = " ".join(self._teams[0])
        second = " ".join(self._teams[1])
        return f"plan for {len(self._threads)} threads: {first} | {second}"
