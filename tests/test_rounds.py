"""Rounds [9.2]: is_right, found_fault and right_paper say the same of those behind restarts; short ones are found."""

import random
import unittest

from teamtells.base.made import adder_kind
from teamtells.errors import InvalidOperation
from teamtells.systems.checks import (
    found_fault, is_fault, is_right, is_right_paper, longest, reach_of, right_paper,
)
from teamtells.systems.programs import Program, System
from tests.cases import Case
from tests.systems import FLAG, SLOT, Explored, first_moment, inputs_of, restarted, some_system, stepped

# Each thread sets a slot to its input at rows 0 and 1, and decides for what it holds.
CLAIM_ROWS = (("do", 0, "seta", {1: 2, 2: 3}), ("do", 0, "setb", {1: 2, 2: 3}), ("decide", 0), ("decide", 1))


def detour(chance, own, many, targets):
    """So many rows on an object of a thread's own, which lead to some of the targets."""
    rows = []
    for _ in range(many):
        if chance.random() < 0.6:
            rows.append(("read", own, {state: chance.choice(targets) for state in range(2)}))
        else:
            rows.append(("do", own, "set", {answer: chance.choice(targets) for answer in range(2)}))
    return rows


def claiming(chance, own):
    """A program that claims a slot, but makes a detour if its flag is set already, as it is behind a restart."""
    many = chance.randint(1, 2)
    starts, detours = [], []
    for number in (0, 1):
        extra = [6 + number * many + index for index in range(many)]
        wrong = [1 - number] if chance.random() < 0.1 else []
        targets = extra * chance.randint(0, 1) + [number] + wrong
        starts.append(("do", own, "set", {0: number, 1: chance.choice(extra + [number])}))
        detours.extend(detour(chance, own, many, targets))
    return Program(CLAIM_ROWS + tuple(starts) + tuple(detours), (4, 5))


def claiming_system(chance):
    """A system of one or two threads that is right without restarts."""
    threads = chance.randint(1, 2)
    objects = ((SLOT, 0),) + ((FLAG, 0),) * threads
    return System(objects, tuple(claiming(chance, 1 + thread) for thread in range(threads)))


def drawn_systems():
    chance = random.Random(91)
    found = [claiming_system(chance) for _ in range(160)]
    while len(found) < 320:
        system = some_system(chance)
        if len(system) < 3:
            found.append(system)
    return found


def moment_behind(system, inputs, deeds):
    moment = first_moment(system, inputs)
    for deed in deeds:
        if isinstance(deed, tuple):
            moment = restarted(system, moment, deed[1], inputs)
        else:
            moment = stepped(system, moment, deed)[0]
    return moment


def shortest_round(system, home):
    """The number of steps of a shortest round at a moment, by all moments behind one step, two steps, and so on."""
    many, met, behind = 0, set(), {home}
    while behind and home not in met:
        steps = [stepped(system, moment, thread) for moment in behind for thread in range(len(system))]
        behind = {step[0] for step in steps if step is not None} - met
        met |= behind
        many += 1
    return many if home in met else None


def circling(many):
    """A program that goes through so many rows, and begins again."""
    behind = [(row + 1) % many for row in range(many)]
    return Program(tuple(("read", 0, {0: row, 1: row}) for row in behind), (0, 0))


class RoundsTest(Case):
    def agreed(self, system, restarts):
        """What all three say is what a plain walk through all moments says; that walk."""
        walks = [Explored(system, inputs, restarts) for inputs in inputs_of(system)]
        right = all(walk.right for walk in walks)
        fault = found_fault(system, restarts=restarts)
        self.same((is_right(system, restarts=restarts), fault is None), (right, right))
        if right:
            self.same(is_right_paper(system, right_paper(system, restarts=restarts), restarts=restarts), True)
        else:
            self.same(is_fault(system, fault, restarts=restarts), True)
            self.refuses(InvalidOperation, None, right_paper, system, restarts=restarts)
        return walks

    def test_drawn_systems(self):
        behind_restarts, right = [0, 0], [0, 0]
        for system in drawn_systems():
            without, let = (self.agreed(system, restarts) for restarts in (False, True))
            other = any(walk.unlike or walk.strange for walk in let)
            if not other and any(walk.rounds for walk in let) and not any(walk.rounds for walk in without):
                behind_restarts[len(system) - 1] += 1
                self.same((is_right(system), found_fault(system)), (True, None))
                self.same(found_fault(system, restarts=True)[0], "round")
            right[len(system) - 1] += all(walk.right for walk in let)
        # Systems whose only rounds are reached behind restarts are there, and such that are right with restarts.
        self.assertGreater(min(behind_restarts), 10)
        self.assertGreater(min(right), 10)

    def test_rounds_that_are_found_are_shortest_ones(self):
        lengths = set()
        for system in drawn_systems():
            for restarts in (False, True):
                for inputs in inputs_of(system):
                    fault = reach_of(system, inputs, restarts).fault()
                    if fault is not None and fault[0] == "round":
                        home = moment_behind(system, inputs, fault[2])
                        self.same(len(fault[3]), shortest_round(system, home))
                        lengths.add(len(fault[3]))
        self.same(sorted(lengths)[:2], [1, 2])

    def test_a_short_round_beside_a_longer_one(self):
        for first, second in ((2, 5), (5, 2), (3, 4), (4, 3), (1, 6), (6, 1)):
            fault = found_fault(System(((FLAG, 0),), (circling(first), circling(second))))
            least = min(first, second)
            self.same(fault[2:], ((), (0 if least == first else 1,) * least))

    def test_behind_a_restart_of_another_thread(self):
        # The second thread waits for ever if the counter is at 2, to which the first one adds twice with a restart.
        rows = (("do", 1, "add", {0: 1, 1: 1, 2: 1}), ("do", 0, "seta", {1: 2, 2: 3}), ("decide", 0), ("decide", 1))
        first = Program(rows + (("do", 1, "add", {0: 5, 1: 5, 2: 5}), ("do", 0, "setb", {1: 2, 2: 3})), (0, 4))
        rows = (("read", 1, {0: 1, 1: 1, 2: 0}), ("do", 0, "seta", {1: 2, 2: 3}), ("decide", 0), ("decide", 1))
        second = Program(rows + (("read", 1, {0: 5, 1: 5, 2: 4}), ("do", 0, "setb", {1: 2, 2: 3})), (0, 4))
        system = System(((SLOT, 0), (adder_kind(3), 0)), (first, second))
        self.same((is_right(system), longest(system), found_fault(system)), (True, 4, None))
        self.same(is_fault(system, ("round", (0, 1), (0, ("restart", 0), 0), (1,)), restarts=True), True)
        self.agreed(system, True)
        self.same(is_right(system, restarts=True), False)


if __name__ == "__main__":
    unittest.main()
