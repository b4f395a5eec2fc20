"""What the document says of orders, found by a plain walk through all of them; and plans of many sorts."""

import itertools
import random

from teamtells.base.kinds import Kind
from teamtells.base.made import (
    adder_kind, cell_kind, fading_kind, flag_kind, highest_kind, queue_kind, slot_kind, swap_kind,
)
from teamtells.plans.plans import Plan

NAMES = ("a", "add", "b", "set", "sets", "zz")


def some_kind(chance, size, many, answers):
    """A kind of so many states and operations with answers out of some."""
    return Kind({
        name: tuple((chance.randrange(size), chance.choice(answers)) for _ in range(size))
        for name in chance.sample(NAMES, many)
    })


def often_used_kinds():
    return [
        cell_kind(1), cell_kind(2), cell_kind(3), flag_kind(), adder_kind(2), adder_kind(3), adder_kind(5),
        swap_kind(2), swap_kind(3), slot_kind(1), slot_kind(2), slot_kind(3), fading_kind(1), fading_kind(2),
        fading_kind(3), queue_kind(1), queue_kind(2), highest_kind(2), highest_kind(3),
    ]


def some_kinds(seed, many):
    """Kinds that are often used, and others."""
    chance = random.Random(seed)
    kinds = often_used_kinds()
    while len(kinds) < many:
        answers = chance.choice([(0,), (0, 1), (0, 7, 99)])
        kinds.append(some_kind(chance, chance.randint(1, 5), chance.randint(1, 4), answers))
    return kinds


def some_plans(seed, kinds, each, least, most):
    """So many plans for each kind, of at least and at most so many threads."""
    chance = random.Random(seed)
    plans = []
    for kind in kinds:
        for _ in range(each):
            threads = chance.randint(least, most)
            few = chance.randint(1, threads - 1)
            names = tuple(chance.choice(kind.names) for _ in range(threads))
            plans.append(Plan(kind, chance.randrange(kind.size), names[:few], names[few:]))
    return plans


def parted_plans(most):
    """Plans of up to so many threads whose teams have one operation each, which is not that of the other one."""
    plans = []
    for kind in (slot_kind(2), slot_kind(3), fading_kind(2), fading_kind(3), queue_kind(1), queue_kind(2)):
        for few in range(1, most):
            for many in range(1, most + 1 - few):
                for start in (0, 1):
                    plans.append(Plan(kind, start, kind.names[:1] * few, kind.names[1:2] * many))
    return plans


def all_orders(threads):
    return [order for many in range(1, threads + 1) for order in itertools.permutations(range(threads), many)]


def played(plan, order):
    """The state behind an order, and the answers of its threads."""
    state = plan.start
    answers = {}
    for thread in order:
        state, answers[thread] = plan.kind.operations[plan.threads[thread]][state]
    return state, answers


def team_of(plan, thread):
    return 0 if thread < len(plan.teams[0]) else 1


class Walk:
    """What each thread sees behind all orders begun by a team, and the states behind them."""

    def __init__(self, plan):
        self.seen = {(thread, team): set() for thread in range(len(plan)) for team in (0, 1)}
        self.states = (set(), set())
        for order in all_orders(len(plan)):
            team = team_of(plan, order[0])
            state, answers = played(plan, order)
            self.states[team].add(state)
            for thread in order:
                self.seen[thread, team].add((answers[thread], state))
        self.tells = not any(self.seen[thread, 0] & self.seen[thread, 1] for thread in range(len(plan)))
        self.records = not self.states[0] & self.states[1] and plan.start not in self.states[0] | self.states[1]


def confusions(plan):
    """All confusions of a plan."""
    orders = [(order, *played(plan, order)) for order in all_orders(len(plan))]
    found = []
    for one, state, answers in orders:
        for other, behind, told in orders:
            if team_of(plan, one[0]) == 0 and team_of(plan, other[0]) == 1 and state == behind:
                found.extend((thread, one, other) for thread in sorted(set(one) & set(other))
                             if answers[thread] == told[thread])
    return found


def mixtures(plan):
    """All papers that a plan does not record."""
    orders = [(order, played(plan, order)[0]) for order in all_orders(len(plan))]
    found = [("back", order) for order, state in orders if state == plan.start]
    for one, state in orders:
        for other, behind in orders:
            if team_of(plan, one[0]) == 0 and team_of(plan, other[0]) == 1 and state == behind:
                found.append(("both", one, other))
    return found


def normal_plans(kind, threads):
    """All normal plans, by the words of [0.12] and in the order of [5.1]."""
    found = []
    for few in range(1, threads):
        for names in itertools.product(kind.names, repeat=threads):
            first, second = names[:few], names[few:]
            if list(first) == sorted(first) and list(second) == sorted(second):
                if (len(first), first) <= (len(second), second):
                    found.append((few, first, second))
    return [Plan(kind, start, first, second) for start in range(kind.size) for _, first, second in sorted(found)]


def near(value):
    """Values near a tuple: a part changed, left out, put in, doubled, exchanged; lists; truths for numbers."""
    found = [list(value), value + (0,), value + value, value[1:], value[:-1], (value,), value[::-1], None, ()]
    for place, part in enumerate(value):
        ahead, behind = value[:place], value[place + 1:]
        found.append(ahead + behind)
        found.append(ahead + (part, part) + behind)
        if part in (0, 1) and not isinstance(part, bool):
            found.append(ahead + (bool(part),) + behind)
        if isinstance(part, int):
            others = [part - 1, part + 1, str(part), None, (part,)]
        elif isinstance(part, tuple):
            others = near(part)
        elif isinstance(part, str):
            others = [part.upper(), part + " ", "", None, 0, (part,)]
        else:
            others = [None, 0, ()]
        found.extend(ahead + (other,) + behind for other in others)
        if behind:
            found.append(ahead + (behind[0], part) + behind[1:])
    return found
