"""Systems that are made from plans: [11.1], [11.2], [11.3], [0.16], stage 11."""

import random
import unittest

from teamtells.base.kinds import Kind, beside
from teamtells.base.made import (
    adder_kind, cell_kind, fading_kind, flag_kind, highest_kind, queue_kind, slot_kind, swap_kind,
)
from teamtells.errors import InvalidKind, InvalidNumber, InvalidOperation, InvalidPlan, InvalidSystem, TooMany
from teamtells.make.makers import agreeing_system, is_made_of, lasting_system, made_system
from teamtells.plans.plans import Plan
from teamtells.plans.telling import records, tells
from teamtells.search.found import can_agree, telling_plans
from teamtells.systems.checks import is_right, longest
from teamtells.systems.critical import plan_at
from teamtells.systems.programs import Program, System
from tests.cases import Case, shown, values, values_but_kinds, values_but_numbers, values_but_plans, values_but_systems
from tests.roads import Roads, all_roads
from tests.systems import ALONE, CELL, FLAG, PAIR, SLOT
from tests.walks import near, parted_plans, some_kinds, some_plans

CELL_KINDS = [cell_kind(many) for many in range(1, 7)]
RACE = Plan(FLAG, 0, ("set",), ("set",))
KINDS = some_kinds(111, 60) + [beside(FLAG, SLOT.renamed({"seta": "one", "setb": "two"})), adder_kind(12)]


def shuffled_plans(chance, kind, threads, many):
    """So many plans that tell, perhaps not normal."""
    found = list(telling_plans(kind, threads))
    plans = []
    for plan in chance.sample(found, min(many, len(found))):
        first, second = (tuple(chance.sample(team, len(team))) for team in plan.teams)
        plan = Plan(kind, plan.start, first, second)
        plans.append(plan if chance.random() < 0.5 else plan.exchanged())
    return plans


def plans_that_tell():
    chance = random.Random(112)
    plans = [
        RACE, Plan(slot_kind(3), 0, ("seta",), ("setc", "setb")), Plan(fading_kind(3), 0, ("setb", "setb"), ("seta",)),
    ]
    for kind in KINDS:
        for threads in (2, 3):
            plans.extend(shuffled_plans(chance, kind, threads, 3 if threads == 2 else 2))
    return plans


PLANS = plans_that_tell()
RECORDING = [
    plan for plan in parted_plans(3) + some_plans(113, KINDS, 30, 2, 3) + PLANS if records(plan)
][:40]


def most_steps(program):
    """The greatest number of steps that a thread can do in a row by its rows."""
    heights = {}

    def height(index):
        if index not in heights:
            row = program.rows[index]
            heights[index] = 0 if row[0] == "decide" else 1 + max(height(behind) for behind in row[-1].values())
        return heights[index]

    return max(height(start) for start in program.starts)


class SystemCase(Case):
    def made_well(self, system, plan, restarts):
        """The system is what a made one must be, by a plain walk through all its moments."""
        self.same(len(system), len(plan))
        for kind, _ in system.objects:
            self.assertTrue(kind == plan.kind or kind in CELL_KINDS)
        self.same(is_made_of(system, (plan.kind,)), True)
        for program in system.programs:
            self.assertLessEqual(len(program), 80)
            self.assertLessEqual(most_steps(program), 50)
        for roads in all_roads(system):
            self.assertTrue(roads.is_right())
            self.assertLessEqual(len(roads.steps), {2: 2000, 3: 20000}[len(plan)])
        if restarts and len(plan) == 2:
            for roads in all_roads(system, True):
                self.assertTrue(roads.is_right())
                self.assertLessEqual(len(roads.steps), 2000)


class MadeTest(SystemCase):
    def test_plans_of_two_and_three_threads(self):
        sorts = set()
        for plan in PLANS:
            sorts.add((len(plan.teams[0]), len(plan.teams[1]), plan.is_normal()))
            self.made_well(made_system(plan), plan, False)
        for sort in ((1, 1, True), (1, 1, False), (1, 2, True), (1, 2, False), (2, 1, False)):
            self.assertIn(sort, sorts)

    def test_answers_and_states_are_both_needed(self):
        # The answer alone does not tell, nor does the state: the one who meets 0 leaves 1, and is met by it, or not.
        plans = [plan for plan in PLANS if not records(plan)]
        self.assertGreater(len(plans), 10)
        chance = random.Random(114)
        for plan in chance.sample(plans, 10):
            self.same(is_right(made_system(plan)), True)

    def test_four_threads(self):
        plans = (
            Plan(SLOT, 0, ("seta", "seta"), ("setb", "setb")), Plan(fading_kind(4), 0, ("setb",) * 3, ("seta",)),
            Plan(queue_kind(2), 0, ("joinb",), ("joina", "joina", "joina")),
        )
        for plan in plans:
            system = made_system(plan)
            self.same((len(system), is_made_of(system, (plan.kind,))), (4, True))
            self.assertLessEqual(max(len(program) for program in system.programs), 80)
            self.assertLessEqual(max(most_steps(program) for program in system.programs), 50)
            self.assertTrue(Roads(system, (0, 1, 0, 1)).is_right())

    def test_plans_that_are_read_off_tell(self):
        many = 0
        for plan in PLANS[::3]:
            system = made_system(plan)
            for roads in all_roads(system):
                for moment in roads.critical():
                    place, found, threads = plan_at(system, roads.inputs, roads.way_to(moment))
                    self.same((tells(found), system.objects[place][0] == plan.kind), (True, True))
                    self.same(sorted(threads), list(range(len(plan))))
                    many += 1
        self.assertGreater(many, 40)

    def test_wrong_plans(self):
        flags = RACE.more(0, "set")
        five, six = RACE.more(0, "set").more(1, "set").more(0, "set"), Plan(SLOT, 0, ("seta",) * 5, ("setb",))
        for call in (made_system, lasting_system):
            self.refuses_each(call, (RACE,), ((InvalidPlan, values_but_plans()),))
            self.refuses(InvalidOperation, None, call, flags)
            self.refuses(InvalidOperation, None, call, flags.more(1, "set"))
            self.refuses(InvalidOperation, None, call, Plan(CELL, 0, ("puta",), ("putb",)))
            self.refuses(InvalidPlan, None, call, RACE.kind)
            # That it has too many threads comes ahead of that it does not tell.
            self.refuses(TooMany, 4, call, five)
            self.refuses(TooMany, 4, call, six)
            self.same(len(call(Plan(SLOT, 0, ("seta",) * 3, ("setb",)))), 4)
        self.refuses(InvalidOperation, None, lasting_system, RACE)

    def test_equal_plans_make_equal_systems(self):
        self.same(made_system(RACE), made_system(Plan(flag_kind(), 0, ("set",), ("set",))))
        self.assertTrue(made_system(RACE) == made_system(RACE))
        before = shown(RACE)
        made_system(RACE).programs[0].rows[2][3].clear()
        made_system(RACE).objects[0][0].operations.clear()
        self.assertEqual(shown(RACE), before)
        self.same(is_right(made_system(RACE)), True)


class LastingTest(SystemCase):
    def test_plans_that_record(self):
        sorts = set()
        for plan in RECORDING:
            sorts.add((len(plan.teams[0]), len(plan.teams[1])))
            self.made_well(lasting_system(plan), plan, True)
        self.same(sorted(sorts), [(1, 1), (1, 2), (2, 1)])
        self.assertGreater(len(RECORDING), 30)

    def test_three_threads_with_restarts(self):
        for plan, inputs in (
            (Plan(SLOT, 0, ("seta", "seta"), ("setb",)), (0, 1, 1)),
            (Plan(SLOT, 0, ("setb",), ("seta", "seta")), (0, 0, 1)),
            (Plan(fading_kind(3), 0, ("seta",), ("setb", "setb")), (1, 0, 1)),
        ):
            self.assertTrue(Roads(lasting_system(plan), inputs, True).is_right())

    def test_four_threads(self):
        plan = Plan(SLOT, 0, ("seta", "seta"), ("setb", "setb"))
        self.same(records(plan), True)
        system = lasting_system(plan)
        self.assertLessEqual(max(len(program) for program in system.programs), 80)
        self.assertTrue(Roads(system, (1, 0, 0, 1)).is_right())

    def test_plans_that_tell_but_do_not_record(self):
        many = 0
        for plan in PLANS:
            if not records(plan):
                many += 1
                self.refuses(InvalidOperation, None, lasting_system, plan)
        self.assertGreater(many, 10)

    def test_right_with_restarts_by_the_package(self):
        for plan in (Plan(SLOT, 0, ("seta",), ("setb",)), Plan(fading_kind(2), 0, ("setb",), ("seta",))):
            self.same([is_right(lasting_system(plan), restarts=restarts) for restarts in (False, True)], [True, True])
            self.same([is_right(made_system(plan), restarts=restarts) for restarts in (False,)], [True])


class AgreeingTest(SystemCase):
    def test_kinds_of_all_levels(self):
        for kind in KINDS + [slot_kind(6), swap_kind(6), queue_kind(2), highest_kind(6)]:
            for threads in (2, 3):
                if can_agree(kind, threads):
                    system = agreeing_system(kind, threads)
                    plan = list(telling_plans(kind, threads))[0]
                    self.made_well(system, plan, False)
                else:
                    self.refuses(InvalidOperation, None, agreeing_system, kind, threads)

    def test_four_threads(self):
        for kind in (SLOT, fading_kind(4)):
            system = agreeing_system(kind, 4)
            self.same((len(system), is_made_of(system, (kind,))), (4, True))
            self.assertTrue(Roads(system, (0, 1, 1, 0)).is_right())
        for kind in (FLAG, fading_kind(3), CELL, adder_kind(12)):
            self.refuses(InvalidOperation, None, agreeing_system, kind, 4)

    def test_one_thread(self):
        for kind in (FLAG, CELL, SLOT):
            system = agreeing_system(kind, 1)
            self.same((system.objects, len(system), is_right(system)), ((), 1, True))
            self.same((is_right(system, restarts=True), longest(system)), (True, longest(System((), (ALONE,)))))

    def test_wrong_arguments(self):
        wrong = ((InvalidKind, values_but_kinds()), (InvalidNumber, values_but_numbers(1, 4)))
        self.refuses_each(agreeing_system, (FLAG, 2), wrong)
        for threads in (0, 5, 6, -1, True, "2"):
            self.refuses(InvalidNumber, threads, agreeing_system, CELL, threads)
        self.refuses(InvalidKind, None, agreeing_system, None, 0)

    def test_as_many_candidates_as_can_be(self):
        # Four threads, six operations, twelve states: 6804 candidates, so that there are never too many.
        rows = tuple(((state + 1) % 12, 0) for state in range(12))
        kind = Kind({name: rows for name in "abcdef"})
        for threads in (2, 3, 4):
            self.refuses(InvalidOperation, None, agreeing_system, kind, threads)


class MadeOfTest(Case):
    def test_which_kinds(self):
        system = made_system(RACE)
        self.same([is_made_of(system, value) for value in ((FLAG,), (SLOT, FLAG), (FLAG, FLAG), (), (SLOT,))],
                  [True, True, True, False, False])
        for kind in CELL_KINDS:
            cells = System(((kind, 0), (kind, kind.size - 1)), (ALONE, ALONE))
            self.same([is_made_of(cells, value) for value in ((), (FLAG,), (kind,))], [True, True, True])
        self.same(is_made_of(System((), (ALONE,)), ()), True)
        self.same(is_made_of(PAIR, (flag_kind(),)), True)

    def test_kinds_near_cells(self):
        turned = cell_kind(2).turned((1, 0))
        for kind in (turned, cell_kind(2).renamed({"puta": "putc"}), cell_kind(3).without("puta"), swap_kind(2),
                     swap_kind(2).silent(), Kind({"puta": ((0, 1),)}), highest_kind(2)):
            system = System(((kind, 0), (CELL, 1)), (ALONE,))
            self.same([is_made_of(system, value) for value in ((), (FLAG, CELL), (FLAG, kind))], [False, False, True])

    def test_values_near(self):
        system = made_system(RACE)
        for value in ([FLAG], {FLAG.names: FLAG}, (FLAG, None), (FLAG, 1), (FLAG, (FLAG,)), ((FLAG,),), FLAG, (RACE,),
                      (FLAG, RACE), (FLAG, True), (FLAG, "set"), (FLAG.operations,), (FLAG.silent(),)):
            self.same(is_made_of(system, value), False)
        for value in near((FLAG, SLOT)):
            good = isinstance(value, tuple) and all(isinstance(kind, Kind) for kind in value) and FLAG in value
            self.same(is_made_of(system, value), good)

    def test_every_value_is_judged(self):
        system = made_system(RACE)
        for value in values():
            good = isinstance(value, tuple) and bool(value) and all(isinstance(kind, Kind) for kind in value)
            self.same(is_made_of(system, value), good)
            self.same(is_made_of(System(((CELL, 0),), (ALONE,)), value), good or shown(value) == "tuple([])")
            self.same(is_made_of(system, (FLAG, value)), isinstance(value, Kind))
        for value in values_but_systems():
            self.refuses(InvalidSystem, None, is_made_of, value, (FLAG,))
            self.refuses(InvalidSystem, None, is_made_of, value, None)

    def test_systems_of_others(self):
        mixed = System(((FLAG, 0), (SLOT, 0), (CELL, 0)), (Program((("decide", 0), ("decide", 1)), (0, 1)),))
        self.same([is_made_of(mixed, value) for value in ((FLAG,), (SLOT,), (SLOT, FLAG), (FLAG, SLOT, CELL))],
                  [False, False, True, True])
        before = shown(mixed)
        is_made_of(mixed, (FLAG,))
        self.assertEqual(shown(mixed), before)


if __name__ == "__main__":
    unittest.main()
