"""Critical moments: [10.1], [10.2], [10.3], stage 10."""

import random
import unittest

from teamtells.base.made import adder_kind, cell_kind, fading_kind, queue_kind, swap_kind
from teamtells.errors import InvalidInputs, InvalidOperation, InvalidSystem, TooMany
from teamtells.make.makers import agreeing_system, made_system
from teamtells.plans.plans import Plan
from teamtells.plans.telling import tells
from teamtells.search.found import can_agree
from teamtells.systems.checks import is_right, reached_moments
from teamtells.systems.critical import (
    critical_way, decisions_ahead, is_critical, is_critical_way, is_open, plan_at,
)
from teamtells.systems.programs import Program, System
from tests.cases import SIXTY, SIXTY_ONE, Case, shown, values, values_but, values_but_systems
from tests.roads import Roads, all_roads
from tests.systems import (
    ALONE, CELL, CLAIM, CLAIMS, FLAG, PAIR, SLOT, STUBBORN, TAKE, WAITING, inputs_of, is_right_by_walk, some_systems,
)
from tests.walks import near

RACE = Plan(FLAG, 0, ("set",), ("set",))
UNLIKE = System((), (ALONE, ALONE))
MADE = [
    made_system(plan) for plan in (
        RACE, Plan(SLOT, 0, ("seta",), ("setb",)), Plan(swap_kind(2), 0, ("swapb",), ("swapb",)),
        Plan(queue_kind(1), 1, ("leave",), ("leave",)), Plan(fading_kind(2), 0, ("setb",), ("seta",)),
    )
]
MADE_OF_THREE = [
    made_system(Plan(SLOT, 0, ("setb", "setb"), ("seta",))), agreeing_system(fading_kind(3), 3), CLAIMS[2],
]


def spoilt(chance, system):
    """The system with a move or a decision of a thread changed."""
    thread = chance.randrange(len(system))
    program = system.programs[thread]
    index = chance.randrange(len(program))
    row = program.rows[index]
    if row[0] == "decide":
        return system.with_program(thread, program.with_row(index, ("decide", 1 - row[1])))
    moves = dict(row[-1])
    moves[chance.choice(list(moves))] = chance.randrange(len(program))
    return system.with_program(thread, program.with_row(index, row[:-1] + (moves,)))


def small_systems():
    chance = random.Random(102)
    ill = [spoilt(chance, chance.choice(MADE + [PAIR, CLAIMS[1]])) for _ in range(50)]
    return some_systems(101, 90) + MADE + ill


SYSTEMS = small_systems()


def plan_by_walk(roads, ahead, moment):
    """What is read off at a moment, by the words of [10.2], or None if nothing can be."""
    system, steps = roads.system, roads.steps[moment]
    if ahead[moment] != {0, 1} or any(ahead[behind] == {0, 1} for behind in steps.values()):
        return None
    rows = [program.rows[index] for program, index in zip(system.programs, moment[1])]
    if {row[0] for row in rows} != {"do"} or len({row[1] for row in rows}) > 1:
        return None
    threads = [thread for thread in steps if 0 in ahead[steps[thread]]]
    others = [thread for thread in steps if 0 not in ahead[steps[thread]]]
    if not threads or not others:
        return None
    kind = system.objects[rows[0][1]][0]
    teams = [tuple(rows[thread][2] for thread in team) for team in (threads, others)]
    return rows[0][1], Plan(kind, moment[0][rows[0][1]], *teams), tuple(threads + others)


class WalkTest(Case):
    def judged(self, roads, ahead, way):
        """All functions say of a way what a plain walk through all moments says; what is read off there."""
        system, inputs, moment = roads.system, roads.inputs, roads.behind(way)
        self.same(decisions_ahead(system, inputs, way), tuple(sorted(ahead[moment])))
        self.same(is_open(system, inputs, way), len(ahead[moment]) == 2)
        open_behind = [len(ahead[behind]) == 2 for behind in roads.steps[moment].values()]
        critical = len(ahead[moment]) == 2 and not any(open_behind)
        self.same(is_critical(system, inputs, way), critical)
        self.same(is_critical_way(system, (inputs, way)), critical)
        plan = plan_by_walk(roads, ahead, moment)
        if plan is None:
            self.refuses(InvalidOperation, None, plan_at, system, inputs, way)
        else:
            self.same(plan_at(system, inputs, way), plan)
        return plan

    def some_ways(self, chance, roads, many):
        """All shortest ways to moments, or so many of them, and some others."""
        ways = [roads.way_to(moment) for moment in roads.critical()][:4]
        found = list(roads.steps)
        ways += [roads.way_to(moment) for moment in (found if len(found) <= many else chance.sample(found, many))]
        for _ in range(4):
            moment, way = roads.first, ()
            while roads.steps[moment] and chance.random() < 0.9:
                thread = chance.choice(list(roads.steps[moment]))
                moment, way = roads.steps[moment][thread], way + (thread,)
            ways.append(way)
        return ways

    def test_small_systems(self):
        chance = random.Random(103)
        told = set()
        for system in SYSTEMS:
            right = is_right_by_walk(system, False)
            for roads in all_roads(system):
                ahead = roads.ahead()
                for way in self.some_ways(chance, roads, 12):
                    plan = self.judged(roads, ahead, way)
                    if plan is not None:
                        told.add((right, tells(plan[1])))
                        self.assertIs(tells(plan[1]) or not right, True)
        self.assertIn((True, True), told)

    def test_systems_of_three_threads(self):
        chance = random.Random(104)
        ill = [spoilt(chance, system) for system in MADE_OF_THREE]
        for system in MADE_OF_THREE + ill:
            for inputs in ((0, 1, 1), (1, 0, 1), (0, 0, 0)):
                roads = Roads(system, inputs)
                ahead = roads.ahead()
                for way in self.some_ways(chance, roads, 4):
                    self.judged(roads, ahead, way)

    def test_plans_read_off_right_systems_tell(self):
        many = 0
        for system in SYSTEMS + MADE_OF_THREE:
            if len(system) < 2 or not is_right(system):
                continue
            for roads in all_roads(system):
                ahead = roads.ahead()
                for moment in roads.critical():
                    plan = plan_by_walk(roads, ahead, moment)
                    self.assertIsNotNone(plan)
                    self.same((tells(plan[1]), moment[2], len(plan[1])), (True, (), len(system)))
                    many += 1
        self.assertGreater(many, 20)

    def test_critical_ways_of_right_systems(self):
        many = 0
        for system in SYSTEMS + MADE_OF_THREE:
            walks = all_roads(system)
            if len(system) > 1 and all(roads.is_right() for roads in walks):
                many += 1
                inputs, way = critical_way(system)
                roads = Roads(system, inputs)
                self.assertIn(roads.behind(way), roads.critical())
                self.same(is_critical_way(system, (inputs, way)), True)
                self.same(tells(plan_at(system, inputs, way)[1]), True)
                # No critical way is shorter, so that it has at most 2000 threads if there is such a one.
                least = min(len(one.way_to(moment)) for one in walks for moment in one.critical())
                self.same(len(way), least)
            else:
                self.refuses(InvalidOperation, None, critical_way, system)
        self.assertGreater(many, 12)

    def test_no_plan_no_right_system(self):
        for system in SYSTEMS + MADE_OF_THREE:
            if len(system) > 1 and not any(can_agree(kind, len(system)) for kind, _ in system.objects):
                self.same(is_right(system), False)
        # Cells alone, whatever the programs do; and flags for three threads.
        self.same(is_right(System(((CELL, 0),) * 3, (TAKE.with_row(2, ("do", 0, "putb", {0: 3})),) * 2)), False)
        three = System(PAIR.objects, (TAKE, TAKE.on({0: 0, 1: 2, 2: 1}), TAKE))
        self.same(is_right(three), False)


class KnownTest(Case):
    def test_decisions_ahead(self):
        self.same([decisions_ahead(PAIR, (0, 1), way) for way in ((), (0,), (0, 0), (1, 1), (0, 1, 0))],
                  [(0, 1), (0, 1), (0,), (1,), (0,)])
        self.same([decisions_ahead(PAIR, inputs, ()) for inputs in ((0, 0), (1, 1), (1, 0))], [(0,), (1,), (0, 1)])
        self.same(decisions_ahead(System(((CELL, 0),), (WAITING, WAITING)), (0, 1), (0, 1, 1)), ())

    def test_ways_behind_decisions(self):
        self.same([decisions_ahead(PAIR, (0, 1), way) for way in ((0, 0, 0), (0, 0, 0, 1, 1, 1))], [(0,), (0,)])
        self.same(is_open(PAIR, (0, 1), (0, 0, 0)), False)
        self.refuses(InvalidOperation, None, decisions_ahead, PAIR, (0, 1), (0, 0, 0, 0))
        # Threads that have decided unlike: both decisions are ahead, and there is no step more.
        self.same((decisions_ahead(UNLIKE, (0, 1), ()), is_open(UNLIKE, (0, 1), ())), ((0, 1), True))
        self.same((is_critical(UNLIKE, (1, 0), ()), is_critical_way(UNLIKE, ((1, 0), ()))), (True, True))
        self.same((is_critical(UNLIKE, (1, 1), ()), is_critical_way(UNLIKE, ((1, 1), ()))), (False, False))
        self.refuses(InvalidOperation, None, plan_at, UNLIKE, (0, 1), ())

    def test_one_thread(self):
        system = CLAIMS[0]
        self.same([decisions_ahead(system, (number,), way) for number in (0, 1) for way in ((), (0,))],
                  [(0,), (0,), (1,), (1,)])
        for number in (0, 1):
            for way in ((), (0,)):
                self.same((is_open(system, (number,), way), is_critical(system, (number,), way)), (False, False))
                self.same(is_critical_way(system, ((number,), way)), False)
                self.refuses(InvalidOperation, None, plan_at, system, (number,), way)
        self.refuses(InvalidOperation, None, critical_way, system)
        self.refuses(InvalidOperation, None, critical_way, System((), (ALONE,)))

    def test_plan_at(self):
        self.same(plan_at(PAIR, (0, 1), (0, 1)), (0, RACE, (0, 1)))
        self.same(plan_at(PAIR, (1, 0), (1, 0)), (0, RACE, (1, 0)))
        plan = Plan(SLOT, 0, ("seta", "seta"), ("setb",))
        self.same(plan_at(CLAIMS[2], (0, 1, 0), ()), (0, plan, (0, 2, 1)))
        self.same(plan_at(CLAIMS[2], (1, 1, 0), ()), (0, Plan(SLOT, 0, ("seta",), ("setb", "setb")), (2, 0, 1)))
        for inputs, way in (((0, 1), ()), ((0, 1), (0,)), ((0, 1), (0, 1, 0)), ((0, 0), (0, 1)), ((1, 1), ())):
            self.refuses(InvalidOperation, None, plan_at, PAIR, inputs, way)

    def test_critical_but_without_a_plan(self):
        # A thread has decided, or reads, or the threads are at two objects.
        rows = (("read", 0, {0: 1, 1: 2}), ("decide", 0), ("decide", 1))
        reading = Program(rows, (0, 0))
        setting = Program((("do", 0, "set", {0: 1, 1: 1}), ("decide", 1)), (0, 0))
        decided = System(((FLAG, 0),), (STUBBORN, setting))
        waiting = Program((("do", 0, "set", {0: 1, 1: 1}), ("read", 0, {0: 1, 1: 1})), (0, 0))
        read = System(((FLAG, 0),), (reading, waiting))
        two = System(((FLAG, 0), (CELL, 0)), (
            Program((("do", 1, "putb", {0: 1}), ("read", 0, {0: 2, 1: 4}), ("decide", 0), ("decide", 1),
                     ("read", 0, {0: 4, 1: 4})), (0, 0)),
            Program((("do", 0, "set", {0: 1, 1: 1}), ("read", 1, {0: 2, 1: 3}), ("decide", 1),
                     ("read", 1, {0: 3, 1: 3})), (0, 0)),
        ))
        for system in (decided, read, two):
            for roads in all_roads(system):
                ahead = roads.ahead()
                for moment in roads.critical():
                    self.assertIsNone(plan_by_walk(roads, ahead, moment))
                    self.same(is_critical(system, roads.inputs, roads.way_to(moment)), True)
                    self.refuses(InvalidOperation, None, plan_at, system, roads.inputs, roads.way_to(moment))
        self.same([is_critical(decided, (0, 0), ()), is_critical(read, (0, 0), ()), is_critical(two, (0, 0), ())],
                  [False, True, True])
        self.same(is_critical(decided, (0, 0), (1,)), True)


class JudgeTest(Case):
    def test_values_near_critical_ways(self):
        for system in (PAIR, MADE[1], MADE[2], CLAIMS[1], UNLIKE):
            walks = {shown(roads.inputs): roads for roads in all_roads(system)}
            for roads in list(walks.values()):
                for moment in roads.critical():
                    value = (roads.inputs, roads.way_to(moment))
                    self.same(is_critical_way(system, value), True)
                    for other in near(value) + near(value[0]) + near(value[1]):
                        self.same(is_critical_way(system, other), self.is_right_value(walks, other))

    def is_right_value(self, walks, value):
        """Whether a value is a critical way, by its text, in which True is not 1 and lists are no tuples."""
        for roads in walks.values():
            for moment in roads.critical():
                if isinstance(value, tuple) and len(value) == 2 and shown(value[0]) == shown(roads.inputs):
                    if isinstance(value[1], tuple) and all(part.__class__ is int for part in value[1]):
                        if roads.behind(value[1]) == moment:
                            return True
        return False

    def test_lists_and_truths(self):
        self.same(is_critical_way(PAIR, ((0, 1), (0, 1))), True)
        for value in ([(0, 1), (0, 1)], ([0, 1], (0, 1)), ((0, 1), [0, 1]), ((False, 1), (0, 1)), ((0, True), (0, 1)),
                      ((0, 1), (False, 1)), ((0, 1), (0, True)), ((0, 1), (0, 1), ()), ((0, 1),), ((0, 1), (0, 1, 1)),
                      ((0, 1), (0,)), ((0, 1), (1,)), ((0, 1), ()), ((0, 0), (0, 1)), ((0, 1), (0, 2)), (0, 1),
                      ((0, 1), (0, -1)), ((0, 1), (0, ("restart", 0), 0, 1)), ((0, 1, 0), (0, 1)), ((0,), (0, 1)), None,
                      ((0, 1), (0, SIXTY)), ((0, 1), (0, SIXTY_ONE)), ((0, 2), (0, 1)), ((0, 1), (0, "1"))):
            self.same(is_critical_way(PAIR, value), False)

    def test_every_value_is_judged(self):
        for value in values():
            for call in (lambda part: part, lambda part: ((0, 1), part), lambda part: (part, (0, 1)),
                         lambda part: ((0, 1), (0, part)), lambda part: ((0, part), (0, 1))):
                judged = call(value)
                good = shown(judged) in (shown(((0, 1), (0, 1))), shown(((0, 1), (1, 0))), shown(((1, 0), (0, 1))),
                                         shown(((1, 0), (1, 0))))
                self.same(is_critical_way(PAIR, judged), good)
        for value in values_but_systems():
            self.refuses(InvalidSystem, None, is_critical_way, value, ((0, 1), (0, 1)))
            self.refuses(InvalidSystem, None, is_critical_way, value, None)

    def test_ways_of_2000_and_2001_threads(self):
        # A thread reads a cell for ever, until the other one puts its second value; then they race.
        first = Program((("read", 3, {0: 0, 1: 2}), ("read", 3, {0: 1, 1: 3}), *moved(TAKE, 2)), (0, 1))
        second = Program((("do", 3, "putb", {0: 2}), ("do", 3, "putb", {0: 3}),
                          *moved(TAKE.on({0: 0, 1: 2, 2: 1}), 2)), (0, 1))
        system = System(PAIR.objects + ((CELL, 0),), (first, second))
        for many, good in ((5, True), (2000, True), (2001, False), (2002, False)):
            way = (0,) * (many - 4) + (1, 0, 0, 1)
            self.same(is_critical_way(system, ((0, 1), way)), good)
            self.same(is_critical_way(system, ((0, 1), way[:-1])), False)
            self.same((is_critical(system, (0, 1), way), plan_at(system, (0, 1), way)), (True, (0, RACE, (0, 1))))
        self.same(is_critical_way(system, ((0, 1), (0,) * 2000)), False)

    def test_the_judge_has_no_limit_of_moments(self):
        programs = (long_take(TAKE, 140), long_take(TAKE.on({0: 0, 1: 2, 2: 1}), 151))
        system = System(PAIR.objects + ((FLAG, 0),), programs)
        self.refuses(TooMany, 20000, reached_moments, system, (0, 1))
        way = (0,) * 141 + (1,) * 152
        self.same([is_critical_way(system, ((0, 1), part)) for part in (way, way[1:], way[:-1], (), way + (0,))],
                  [True, False, False, False, False])
        many = System(PAIR.objects + ((FLAG, 0),), (reading(150, 0), reading(150, 1), reading(150, 0)))
        self.same(is_critical_way(many, ((0, 1, 0), ())), False)


def moved(program, ahead):
    """The rows of a program behind so many other rows."""
    return tuple(
        row if row[0] == "decide" else (*row[:-1], {key: behind + ahead for key, behind in row[-1].items()})
        for row in program.rows
    )


def reading(many, number):
    """A program of so many reads of the last object, and a decision."""
    rows = tuple(("read", 3, {0: index + 1, 1: index + 1}) for index in range(many))
    return Program(rows + (("decide", number),), (0, 0))


def long_take(program, many):
    """The program, but with so many reads behind its put of the value."""
    rows = list(moved(program, many))
    reads = [("read", 3, {0: index + 3, 1: index + 3}) for index in range(many)]
    for index in (0, 1):
        rows[index] = rows[index][:3] + ({0: 2},)
    return Program((*rows[:2], *reads, *rows[2:]), (0, 1))


def too_long(thread_rows):
    """A system with PAIR's objects that reaches too many moments."""
    return System(PAIR.objects + ((FLAG, 0),), tuple(reading(many, 0) for many in thread_rows))


class RefusedTest(Case):
    def test_wrong_arguments(self):
        ways = values_but((), (0,), (1,), (0, 0), (0, 1), (1, 0))
        wrong = (
            (InvalidSystem, values_but_systems()), (InvalidInputs, values_but((0, 1), (1, 0), (0, 0))),
            (InvalidOperation, ways),
        )
        for call in (decisions_ahead, is_open, is_critical, plan_at):
            self.refuses_each(call, (PAIR, (0, 1), (0, 1)), wrong)
        for value in values():
            if shown(value) not in ("0", "1"):
                for call in (decisions_ahead, is_open, is_critical, plan_at):
                    self.refuses(InvalidOperation, None, call, PAIR, (0, 1), (0, value))
        for call in (decisions_ahead, is_open, is_critical, plan_at):
            for way in ((0, ("restart", 0), 0, 1), (0, 2), (0, -1), [0, 1], (0, True), (0, 0, 0, 0)):
                self.refuses(InvalidOperation, None, call, PAIR, (0, 1), way)
        self.refuses_each(critical_way, (PAIR,), ((InvalidSystem, values_but_systems()),))

    def test_more_than_20000_moments(self):
        # 141 * 142 = 20022 moments; 125 * 160 = 20000.
        more, just = too_long((140, 141)), too_long((124, 159))
        for call in (decisions_ahead, is_open, is_critical, plan_at):
            self.refuses(TooMany, 20000, call, more, (0, 0), ())
            self.refuses(TooMany, 20000, call, more, (0, 0), (0, 1) * 140)
            self.refuses(InvalidOperation, None, call, more, (0, 0), (0, 1, 2))
            self.refuses(InvalidInputs, None, call, more, (0, 0, 0), ())
        self.refuses(TooMany, 20000, critical_way, more)
        self.refuses(InvalidOperation, None, critical_way, just)
        self.same((decisions_ahead(just, (1, 0), ()), is_open(just, (1, 0), ())), ((0,), False))
        self.refuses(InvalidOperation, None, plan_at, just, (1, 0), ())

    def test_too_many_moments_with_other_inputs_only(self):
        long = reading(150, 1)
        program = Program((*long.rows, ("decide", 0)), (151, 0))
        system = System(PAIR.objects + ((FLAG, 0),), (program, program))
        self.same(decisions_ahead(system, (0, 0), ()), (0,))
        self.refuses(TooMany, 20000, decisions_ahead, system, (1, 1), ())
        self.refuses(TooMany, 20000, critical_way, system)

    def test_one_thread_with_too_many_moments(self):
        # Five counters one behind the other.
        rows = [("do", place, "add", {answer: 0 if answer < 11 else place + 1 for answer in range(12)})
                for place in range(4)]
        rows.append(("do", 4, "add", dict.fromkeys(range(12), 0)))
        system = System(((adder_kind(12), 0),) * 5, (Program(tuple(rows), (0, 0)),))
        self.refuses(TooMany, 20000, critical_way, system)
        self.refuses(TooMany, 20000, is_open, system, (0,), ())
        self.same(is_critical_way(system, ((2,), ())), False)

    def test_not_right(self):
        for system in (UNLIKE, System(((CELL, 0),), (WAITING, WAITING)), System((), (STUBBORN, STUBBORN))):
            self.refuses(InvalidOperation, None, critical_way, system)


class StateTest(Case):
    def test_systems_stay_as_they_are(self):
        system = System(PAIR.objects, PAIR.programs)
        before = shown(system)
        for call in (decisions_ahead, is_open, is_critical, plan_at):
            self.same(shown(call(system, (0, 1), (0, 1))), shown(call(PAIR, (0, 1), (0, 1))))
            self.refuses(InvalidOperation, None, call, system, (0, 1), (0, 1, 2))
        self.same(critical_way(system), critical_way(PAIR))
        plan_at(system, (0, 1), (0, 1))[1].kind.operations.clear()
        self.assertEqual(shown(system), before)

    def test_sorts_of_results(self):
        self.same([part.__class__ for part in plan_at(PAIR, (0, 1), (0, 1))], [int, Plan, tuple])
        self.same([part.__class__ for part in critical_way(PAIR)], [tuple, tuple])
        self.assertIs(decisions_ahead(PAIR, (0, 1), ()).__class__, tuple)
        moves = {1: 2, 2: 3}
        rows = (("do", 0, "seta", moves), ("do", 0, "setb", moves), ("decide", 0), ("decide", 1))
        system = System(((SLOT, 0),), (Program(rows, (0, 1)), CLAIM))
        moves[1] = 0
        self.same(is_critical_way(system, ((0, 1), ())), True)
        self.same([len(inputs_of(system)), cell_kind(2) == CELL], [4, True])


if __name__ == "__main__":
    unittest.main()
