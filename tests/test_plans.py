"""Plans and their orders: [0.9], [0.10], [0.12], stage 3."""

import itertools
import unittest

from teamtells.base.kinds import Kind, image_of
from teamtells.base.made import cell_kind, flag_kind, slot_kind
from teamtells.errors import InvalidKind, InvalidNumber, InvalidOperation, InvalidPlan, TooMany, UnknownName
from teamtells.plans.plans import MAX_THREADS, Plan
from tests.cases import (
    SIXTY, SIXTY_ONE, Case, shown, values, values_but, values_but_kinds, values_but_numbers, values_but_texts,
)
from tests.walks import all_orders, near, played, some_kinds, some_plans, team_of

FLAG = flag_kind()
SLOT = slot_kind(2)
THREE = slot_kind(3)
RACE = Plan(FLAG, 0, ("set",), ("set",))
MIXED = Plan(THREE, 1, ("setc", "seta"), ("setb", "seta", "setb"))
FULL = Plan(SLOT, 0, ("seta", "setb", "seta"), ("setb", "setb", "seta"))
PLANS = some_plans(1, some_kinds(1, 40), 3, 2, 5)


class MakingTest(Case):
    def test_what_it_keeps(self):
        self.same(MIXED.kind, slot_kind(3))
        self.same((MIXED.start, MIXED.teams), (1, (("setc", "seta"), ("setb", "seta", "setb"))))
        self.same(MIXED.threads, ("setc", "seta", "setb", "seta", "setb"))

    def test_from_two_threads_to_six(self):
        self.same(MAX_THREADS, 6)
        for first, second in itertools.product(range(8), repeat=2):
            teams = ("set",) * first, ("set",) * second
            if first and second and first + second <= 6:
                plan = Plan(FLAG, 1, *teams)
                self.same((len(plan), plan.teams), (first + second, teams))
            else:
                self.refuses(InvalidPlan, None, Plan, FLAG, 1, *teams)

    def test_starts_are_states(self):
        for kind in some_kinds(2, 30):
            for start in range(kind.size):
                self.same(Plan(kind, start, kind.names[:1], kind.names[-1:]).start, start)
            self.refuses(InvalidPlan, None, Plan, kind, kind.size, kind.names[:1], kind.names[:1])
            self.refuses(InvalidPlan, None, Plan, kind, -1, kind.names[:1], kind.names[:1])

    def test_wrong_arguments(self):
        right = (FLAG, 0, ("set",), ("set",))
        teams = values_but(("set",))
        wrong = (
            (InvalidKind, values_but_kinds()), (InvalidPlan, values_but_numbers(0, 1)),
            (InvalidPlan, teams), (InvalidPlan, teams),
        )
        self.refuses_each(Plan, right, wrong)

    def test_wrong_teams(self):
        for value in values_but_texts("set"):
            for team in ((value,), (value, "set"), ("set", value), ("set", "set", value)):
                self.refuses(InvalidPlan, None, Plan, FLAG, 0, team, ("set",))
                self.refuses(InvalidPlan, None, Plan, FLAG, 0, ("set",), team)
        for team in (["set"], "set", {"set": "set"}, ("set", "Set"), ("setd",), ("set", "")):
            self.refuses(InvalidPlan, None, Plan, THREE, 0, team, ("seta",))
            self.refuses(InvalidPlan, None, Plan, THREE, 0, ("seta",), team)

    def test_the_kind_is_judged_first(self):
        self.refuses(InvalidKind, None, Plan, None, -1, (), None)
        self.refuses(InvalidKind, None, Plan, FLAG.operations, 0, ("set",), ("set",))


class OrderTest(Case):
    def test_teams_of_threads(self):
        for plan in PLANS + [RACE, MIXED, FULL]:
            first, second = plan.teams
            teams = [0] * len(first) + [1] * len(second)
            self.same([plan.team_of(thread) for thread in range(len(plan))], teams)

    def test_wrong_threads(self):
        for plan in (RACE, MIXED, FULL):
            for value in values_but_numbers(0, len(plan) - 1):
                self.refuses(InvalidNumber, value, plan.team_of, value)

    def test_all_orders(self):
        for plan in PLANS + [RACE, MIXED]:
            orders = all_orders(len(plan))
            self.same(list(plan.orders()), orders)
            self.same(list(plan.orders(team=None)), orders)
            for team in (0, 1):
                begun = [order for order in orders if team_of(plan, order[0]) == team]
                self.same(list(plan.orders(team=team)), begun)

    def test_orders_of_six_threads(self):
        self.same(list(FULL.orders()), all_orders(6))
        self.same(len(list(FULL.orders(team=1))), 978)
        lone = Plan(SLOT, 0, ("seta",), ("setb",) * 5)
        self.same(len(list(lone.orders(team=0))), 326)
        self.same(list(lone.orders(team=0))[-1], (0, 5, 4, 3, 2, 1))

    def test_wrong_teams_are_told_by_the_first_order(self):
        def first(plan, team):
            orders = plan.orders(team=team)
            return next(orders)

        for value in values_but(0, 1, None):
            self.refuses(InvalidNumber, value, first, RACE, value)
            RACE.orders(team=value)
        for value in (0, 1, None):
            first(RACE, value)

    def test_generators_go_on_by_themselves(self):
        one, other = MIXED.orders(), MIXED.orders()
        self.same([next(one), next(one), next(other), next(one), next(other)], [(0,), (1,), (0,), (2,), (1,)])
        rest = list(one)
        self.same(rest, all_orders(5)[3:])
        self.same(list(other), all_orders(5)[2:])
        self.same(list(one), [])

    def test_which_values_are_orders(self):
        for plan in (RACE, MIXED, FULL):
            orders = all_orders(len(plan))
            texts = {shown(order) for order in orders}
            for order in orders:
                self.same(plan.is_order(order), True)
            for value in values():
                self.same(plan.is_order(value), shown(value) in texts)
            for order in orders[:40] + orders[-1:]:
                for value in near(order):
                    self.same(plan.is_order(value), shown(value) in texts)

    def test_edges_of_orders(self):
        self.same([RACE.is_order(value) for value in ((0,), (1,), (0, 1), (1, 0))], [True] * 4)
        wrong = ((), (2,), (-1,), (0, 0), (0, 1, 0), (True, 0), (0, True), [0], [0, 1], (0, None), ((0,),), 0, "0",
            {0: 1})
        self.same([RACE.is_order(value) for value in wrong], [False] * len(wrong))
        self.same(RACE.is_order((SIXTY,)) or RACE.is_order((0, SIXTY_ONE)), False)
        self.same(RACE.is_order(([],)) or RACE.is_order(({}, 0)) or RACE.is_order((0, RACE)), False)

    def test_what_is_behind_orders(self):
        for plan in PLANS + [RACE, MIXED]:
            for order in all_orders(len(plan)):
                state, answers = played(plan, order)
                found = plan.played(order)
                self.same(found, (state, {thread: answers[thread] for thread in sorted(order)}))
                self.assertEqual(list(found[1]), sorted(order))

    def test_what_is_no_order_is_not_played(self):
        orders = [shown(order) for order in all_orders(2)]
        for value in values() + near((0, 1)) + near((1,)):
            if shown(value) not in orders:
                self.refuses(InvalidOperation, None, RACE.played, value)


class ChangeTest(Case):
    def test_without_a_thread(self):
        self.same([str(MIXED.fewer(thread)) for thread in range(5)], [
            "plan for 4 threads: seta | setb seta setb", "plan for 4 threads: setc | setb seta setb",
            "plan for 4 threads: setc seta | seta setb", "plan for 4 threads: setc seta | setb setb",
            "plan for 4 threads: setc seta | setb seta",
        ])
        self.same(MIXED.fewer(0), Plan(THREE, 1, ("seta",), ("setb", "seta", "setb")))

    def test_the_only_thread_of_a_team_stays(self):
        lone = Plan(SLOT, 0, ("seta",), ("setb", "setb"))
        self.refuses(InvalidOperation, None, lone.fewer, 0)
        self.refuses(InvalidOperation, None, lone.exchanged().fewer, 2)
        self.same(lone.fewer(1), Plan(SLOT, 0, ("seta",), ("setb",)))
        for thread in (0, 1):
            self.refuses(InvalidOperation, None, RACE.fewer, thread)
        for plan in (RACE, lone, MIXED):
            for value in values_but_numbers(0, len(plan) - 1):
                self.refuses(InvalidNumber, value, plan.fewer, value)

    def test_with_a_thread(self):
        self.same(MIXED.more(0, "setb"), Plan(THREE, 1, ("setc", "seta", "setb"), ("setb", "seta", "setb")))
        self.same(MIXED.more(1, "setc"), Plan(THREE, 1, ("setc", "seta"), ("setb", "seta", "setb", "setc")))
        for plan in PLANS:
            for team, name in itertools.product((0, 1), plan.kind.names):
                more = plan.more(team, name)
                thread = len(plan.teams[0]) if team == 0 else len(plan)
                self.same((len(more), more.threads[thread], more.team_of(thread)), (len(plan) + 1, name, team))
                self.same(more.fewer(thread), plan)

    def test_wrong_threads_more(self):
        names = values_but_texts("set")
        self.refuses_each(RACE.more, (0, "set"), ((InvalidNumber, values_but_numbers(0, 1)), (UnknownName, names)))

    def test_at_most_six_threads(self):
        five = FULL.fewer(5)
        for team in (0, 1):
            self.same(len(five.more(team, "seta")), 6)
            self.refuses(TooMany, 6, FULL.more, team, "seta")
            self.refuses(UnknownName, "setc", FULL.more, team, "setc")
        self.refuses(InvalidNumber, True, FULL.more, True, "seta")
        self.refuses(InvalidNumber, 2, FULL.more, 2, "setc")

    def test_exchanged(self):
        self.same(MIXED.exchanged(), Plan(THREE, 1, ("setb", "seta", "setb"), ("setc", "seta")))
        for plan in PLANS:
            self.same(plan.exchanged().teams, plan.teams[::-1])
            self.same(plan.exchanged().exchanged(), plan)

    def test_normal(self):
        self.same(MIXED.normal(), Plan(THREE, 1, ("seta", "setc"), ("seta", "setb", "setb")))
        self.same(MIXED.exchanged().normal(), MIXED.normal())
        even = Plan(THREE, 0, ("setc", "seta"), ("setb", "seta"))
        self.same(even.normal().teams, (("seta", "setb"), ("seta", "setc")))
        short = Plan(THREE, 0, ("seta", "seta"), ("setc",))
        self.same(short.normal().teams, (("setc",), ("seta", "seta")))
        self.same((short.is_normal(), short.normal().is_normal()), (False, True))

    def test_which_plans_are_normal(self):
        names = ("seta", "setb", "setc")
        for few, many in ((1, 1), (1, 2), (2, 1), (2, 2)):
            for first in itertools.product(names, repeat=few):
                for second in itertools.product(names, repeat=many):
                    plan = Plan(THREE, 0, first, second)
                    ascending = list(first) == sorted(first) and list(second) == sorted(second)
                    self.same(plan.is_normal(), ascending and (few, first) <= (many, second))
                    normal = plan.normal()
                    teams = sorted([tuple(sorted(first)), tuple(sorted(second))])
                    self.same((normal.is_normal(), sorted(normal.teams), normal.start), (True, teams, 0))

    def test_renamed(self):
        names = {"seta": "setb", "setb": "seta"}
        self.same(MIXED.renamed(names), Plan(THREE.renamed(names), 1, ("setc", "setb"), ("seta", "setb", "seta")))
        self.same(MIXED.renamed({}), MIXED)
        self.same(str(RACE.renamed({"set": "go"})), "plan for 2 threads: go | go")
        self.same(names, {"seta": "setb", "setb": "seta"})

    def test_wrong_new_names(self):
        for value in values():
            if value != {}:
                self.refuses(InvalidOperation, None, MIXED.renamed, value)
        for value in values_but_texts("a", "z", "add", "set", "sets", "abcdefgh"):
            self.refuses(InvalidOperation, None, MIXED.renamed, {"setc": value})
        for names in ({"seta": "setb"}, {"setd": "a"}, {"seta": "x", "setb": "x"}, {"seta": "X"}):
            self.refuses(InvalidOperation, None, MIXED.renamed, names)

    def test_turned(self):
        numbers = (2, 0, 3, 1)
        turned = MIXED.turned(numbers)
        self.same(turned, Plan(THREE.turned(numbers), 0, ("setc", "seta"), ("setb", "seta", "setb")))
        for order in all_orders(5):
            state, answers = MIXED.played(order)
            self.same(turned.played(order), (numbers[state], answers))

    def test_wrong_new_numbers(self):
        right = [(0, 1), (1, 0)]
        for value in values_but(*right) + near((0, 1)):
            if shown(value) not in [shown(numbers) for numbers in right]:
                self.refuses(InvalidOperation, None, RACE.turned, value)
        self.same([RACE.turned(numbers).start for numbers in right], [0, 1])

    def test_mapped(self):
        loose = Kind({"set": ((1, 0), (2, 1), (2, 1))})
        plan = Plan(loose, 2, ("set",), ("set", "set"))
        self.same(plan.mapped(FLAG, (0, 1, 1)), Plan(FLAG, 1, ("set",), ("set", "set")))
        for plan in PLANS:
            other, value = image_of(plan.kind)
            self.same(plan.mapped(other, value), Plan(other, value[plan.start], *plan.teams))

    def test_wrong_maps(self):
        loose = Kind({"set": ((1, 0), (2, 1), (2, 1))})
        plan = Plan(loose, 0, ("set",), ("set",))
        maps = values_but((0, 1, 1))
        self.refuses_each(plan.mapped, (FLAG, (0, 1, 1)), ((InvalidKind, values_but_kinds()), (InvalidOperation, maps)))
        for value in near((0, 1, 1)):
            if value != (0, 1, 1) or shown(value) != shown((0, 1, 1)):
                self.refuses(InvalidOperation, None, plan.mapped, FLAG, value)
        self.refuses(InvalidOperation, None, RACE.mapped, cell_kind(2), (0, 1))

    def test_changes_leave_the_plan(self):
        plan = Plan(THREE, 1, ("setc", "seta"), ("setb",))
        before = shown(plan)
        for made in (plan.fewer(0), plan.more(0, "seta"), plan.exchanged(), plan.normal(), plan.renamed({})):
            self.assertIsNot(made, plan)
            self.assertIsInstance(made, Plan)
            self.assertEqual(shown(plan), before)


class OperatorTest(Case):
    def test_length_and_text(self):
        self.same((len(RACE), len(MIXED), len(FULL)), (2, 5, 6))
        self.same(str(Plan(SLOT, 0, ("seta", "seta"), ("setb",))), "plan for 3 threads: seta seta | setb")
        self.same(str(MIXED), "plan for 5 threads: setc seta | setb seta setb")

    def test_equal_ones(self):
        self.assertIs(RACE == Plan(flag_kind(), 0, ("set",), ("set",)), True)
        others = [
            Plan(FLAG, 1, ("set",), ("set",)), Plan(FLAG, 0, ("set", "set"), ("set",)),
            Plan(FLAG, 0, ("set",), ("set", "set")), Plan(FLAG.silent(), 0, ("set",), ("set",)),
        ]
        for other in others:
            self.assertIs(RACE == other, False)
            self.assertIs(RACE != other, True)
        one, other = Plan(SLOT, 0, ("seta",), ("setb",)), Plan(SLOT, 0, ("setb",), ("seta",))
        self.assertIs(one == other, False)
        self.assertIs(one == other.exchanged(), True)

    def test_compared_with_every_value(self):
        for value in values():
            equal = isinstance(value, Plan) and value.teams == RACE.teams and value.start == 0
            self.assertIs(RACE == value, equal)
            self.assertIs(RACE != value, not equal)

    def test_plans_are_not_iterated(self):
        for call in (list, tuple, iter, sorted):
            with self.assertRaises(TypeError):
                call(RACE)
        with self.assertRaises(TypeError):
            0 in RACE


class SharingTest(Case):
    def test_returned_dicts_can_be_changed(self):
        state, answers = MIXED.played((3, 0))
        answers[0] = 77
        answers.pop(3)
        self.same(MIXED.played((3, 0)), (1, {0: 1, 3: 1}))
        self.same(state, 1)

    def test_the_kind_can_be_asked_for_its_dict(self):
        plan = Plan(FLAG, 0, ("set",), ("set",))
        plan.kind.operations.clear()
        self.same(plan.played((0, 1)), (1, {0: 0, 1: 1}))

    def test_a_passed_renaming_can_be_changed(self):
        names = {"set": "go"}
        plan = RACE.renamed(names)
        names["set"] = "run"
        self.same(plan.threads, ("go", "go"))

    def test_results_are_tuples(self):
        for value in (MIXED.teams, MIXED.teams[0], MIXED.threads, MIXED.played((0,)), next(MIXED.orders())):
            self.assertIs(value.__class__, tuple)
        self.assertIs(MIXED.played((0,))[1].__class__, dict)


if __name__ == "__main__":
    unittest.main()
