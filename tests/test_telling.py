"""What threads see, whether plans tell and record, and their papers: [0.10] to [0.12], [4.1], stage 4."""

import random
import unittest

from teamtells.base.kinds import Kind, image_of
from teamtells.base.made import adder_kind, cell_kind, fading_kind, flag_kind, slot_kind
from teamtells.errors import InvalidNumber, InvalidOperation, InvalidPlan
from teamtells.plans.plans import Plan
from teamtells.plans.telling import (
    confusion, first_team, is_confusion, is_mixture, mixture, records, seen_by, states_behind, tells,
)
from tests.cases import Case, shown, values, values_but_numbers, values_but_plans
from tests.walks import Walk, confusions, mixtures, near, parted_plans, some_kind, some_kinds, some_plans

FLAG = flag_kind()
SLOT = slot_kind(2)
RACE = Plan(FLAG, 0, ("set",), ("set",))
CROWD = RACE.more(0, "set")
PLANS = some_plans(3, some_kinds(3, 60), 5, 2, 4) + parted_plans(4)
SMALL = some_plans(4, some_kinds(4, 30), 1, 2, 3)
TELLING = [plan for plan in PLANS if Walk(plan).tells]


class WalkTest(Case):
    def test_what_threads_see(self):
        for plan in PLANS:
            walk = Walk(plan)
            for thread, team in walk.seen:
                self.same(seen_by(plan, thread, team), tuple(sorted(walk.seen[thread, team])))

    def test_which_plans_tell(self):
        self.assertGreater(len(TELLING), 40)
        self.assertLess(len(TELLING), len(PLANS) - 40)
        for plan in PLANS:
            self.same(tells(plan), Walk(plan).tells)

    def test_which_plans_record(self):
        for plan in PLANS:
            walk = Walk(plan)
            self.same(records(plan), walk.records)
            for team in (0, 1):
                self.same(states_behind(plan, team), tuple(sorted(walk.states[team])))
            # A plan that records tells.
            self.assertTrue(walk.tells or not walk.records)

    def test_first_teams(self):
        for plan in SMALL:
            walk = Walk(plan)
            for thread in range(len(plan)):
                for answer in (-1, 0, 1, 2, 3, 7, 99, 100):
                    for state in range(-1, plan.kind.size + 1):
                        teams = [team for team in (0, 1) if (answer, state) in walk.seen[thread, team]]
                        if len(teams) == 1:
                            self.same(first_team(plan, thread, answer, state), teams[0])
                        else:
                            self.refuses(InvalidOperation, None, first_team, plan, thread, answer, state)

    def test_five_and_six_threads(self):
        kinds = some_kinds(5, 24)
        for plan in some_plans(5, kinds, 1, 5, 5) + some_plans(6, kinds[::6], 1, 6, 6) + parted_plans(6)[-9:]:
            walk = Walk(plan)
            self.same((tells(plan), records(plan)), (walk.tells, walk.records))
            for thread, team in walk.seen:
                self.same(seen_by(plan, thread, team), tuple(sorted(walk.seen[thread, team])))
            for team in (0, 1):
                self.same(states_behind(plan, team), tuple(sorted(walk.states[team])))

    def test_many_operations_and_states(self):
        chance = random.Random(9)
        for _ in range(3):
            kind = some_kind(chance, 12, 6, (0, 1, 98, 99))
            plan = Plan(kind, 11, kind.names[:2], kind.names[2:])
            walk = Walk(plan)
            self.same((tells(plan), records(plan)), (walk.tells, walk.records))
            self.same(seen_by(plan, 3, 0), tuple(sorted(walk.seen[3, 0])))
            self.same(seen_by(plan, 5, 1), tuple(sorted(walk.seen[5, 1])))


class JudgeTest(Case):
    def test_confusions_that_are_found(self):
        for plan in PLANS:
            if Walk(plan).tells:
                self.refuses(InvalidOperation, None, confusion, plan)
            else:
                found = confusion(plan)
                self.assertIn(found, confusions(plan))
                self.same(is_confusion(plan, found), True)

    def test_mixtures_that_are_found(self):
        for plan in PLANS:
            if Walk(plan).records:
                self.refuses(InvalidOperation, None, mixture, plan)
            else:
                found = mixture(plan)
                self.assertIn(found, mixtures(plan))
                self.same(is_mixture(plan, found), True)

    def judged(self, judge, plan, right):
        """The judge accepts just the right values, of those near them, of all sorts, and of other plans."""
        texts = {shown(value) for value in right}
        tried = list(values())
        for value in right[:3] + right[-3:]:
            tried.extend(near(value))
        for value in right + tried:
            self.same(judge(plan, value), shown(value) in texts)

    def test_which_values_are_confusions(self):
        for plan in SMALL[:12] + [RACE, CROWD]:
            self.judged(is_confusion, plan, confusions(plan))

    def test_which_values_are_mixtures(self):
        for plan in SMALL[:12] + [RACE, CROWD]:
            self.judged(is_mixture, plan, mixtures(plan))

    def test_all_pairs_of_orders(self):
        for plan in (CROWD, Plan(SLOT, 0, ("seta",), ("setb", "seta")), Plan(adder_kind(3), 1, ("add",), ("add",) * 2)):
            right = confusions(plan)
            mixed = mixtures(plan)
            for one in plan.orders():
                self.same(is_mixture(plan, ("back", one)), ("back", one) in mixed)
                for other in plan.orders():
                    self.same(is_mixture(plan, ("both", one, other)), ("both", one, other) in mixed)
                    for thread in range(-1, 4):
                        value = (thread, one, other)
                        self.same(is_confusion(plan, value), value in right)

    def test_edges_of_confusions(self):
        self.same(is_confusion(CROWD, (1, (0, 1), (2, 1))), True)
        wrong = (
            (1, (2, 1), (0, 1)), (True, (0, 1), (2, 1)), (0, (0, 1), (2, 1)), (1, (0, True), (2, 1)),
            [1, (0, 1), (2, 1)],
            (1, [0, 1], (2, 1)), (1, (0, 1), [2, 1]), (1, (0, 1)), (1, (0, 1), (2, 1), ()), (1, (0, 1, 1), (2, 1)),
            (1, (0, 1), (2, 1, 3)), (3, (0, 1), (2, 1)), (None, (0, 1), (2, 1)), (1, (0,), (2, 1)), (1, (0, 1), ()),
        )
        for value in wrong:
            self.same(is_confusion(CROWD, value), False)

    def test_edges_of_mixtures(self):
        self.same(is_mixture(RACE, ("both", (0,), (1, 0))), True)
        wrong = (
            ("both", (1, 0), (0,)), ("both", (0,), (0, 1)), ("back", (0,)), ("both", [0], (1, 0)),
            ["both", (0,), (1, 0)],
            ("both", (0,)), ("both", (False,), (1, 0)), ("Both", (0,), (1, 0)), ("back", (0,), (1, 0)), ("back",),
            "back",
        )
        for value in wrong:
            self.same(is_mixture(RACE, value), False)
        cell = Plan(cell_kind(1), 0, ("puta",), ("puta",))
        for order in ((0,), (1,), (0, 1), (1, 0)):
            self.same(is_mixture(cell, ("back", order)), True)
        for value in (("back", ()), ("back", (0, 0)), ("back", [0]), ("back", (False,)), ("back", (2,)),
                ("both", (0,))):
            self.same(is_mixture(cell, value), False)

    def test_starts_to_which_an_order_leads_back(self):
        # No state is behind orders of both teams, but the start comes back.
        kind = Kind({"stay": ((0, 0), (1, 0)), "go": ((1, 1), (1, 2))})
        plan = Plan(kind, 0, ("stay",), ("go",))
        self.same((records(plan), is_mixture(plan, ("back", (0,)))), (False, True))
        both_ways = Plan(Kind({"x": ((1, 0), (0, 0))}), 0, ("x",), ("x",))
        self.same((records(both_ways), is_mixture(both_ways, ("back", (1, 0)))), (False, True))


class FirstTeamTest(Case):
    def test_every_value_can_be_asked_for(self):
        self.same((first_team(RACE, 1, 1, 1), first_team(RACE, 1, 0, 1)), (0, 1))
        for value in values():
            if shown(value) not in ("0", "1"):
                self.refuses(InvalidOperation, None, first_team, RACE, 1, value, 1)
            if shown(value) != "1":
                self.refuses(InvalidOperation, None, first_team, RACE, 1, 1, value)

    def test_a_pair_that_is_seen_behind_both(self):
        self.refuses(InvalidOperation, None, first_team, CROWD, 1, 1, 1)
        self.same(first_team(CROWD, 2, 0, 1), 1)


class ArgumentTest(Case):
    def test_wrong_plans(self):
        plans = (InvalidPlan, values_but_plans())
        threads = (InvalidNumber, values_but_numbers(0, 2))
        teams = (InvalidNumber, values_but_numbers(0, 1))
        self.refuses_each(seen_by, (CROWD, 0, 0), (plans, threads, teams))
        self.refuses_each(states_behind, (CROWD, 0), (plans, teams))
        self.refuses_each(first_team, (CROWD, 2, 0, 1), (plans, threads, None, None))
        for call in (tells, confusion, records, mixture):
            self.refuses_each(call, (CROWD,), (plans,))
        for call in (is_confusion, is_mixture):
            self.refuses_each(call, (CROWD, None), (plans, None))

    def test_threads_of_a_plan(self):
        for plan in (RACE, CROWD, Plan(SLOT, 0, ("seta",) * 3, ("setb",) * 3)):
            self.same(seen_by(plan, len(plan) - 1, 1) == (), False)
            self.refuses(InvalidNumber, len(plan), seen_by, plan, len(plan), 1)
            self.refuses(InvalidNumber, len(plan), first_team, plan, len(plan), None, None)
            self.refuses(InvalidNumber, 2, states_behind, plan, 2)


class ChangedPlanTest(Case):
    def test_without_a_thread(self):
        tried = 0
        for plan in TELLING:
            for thread in range(len(plan)):
                if len(plan.teams[plan.team_of(thread)]) > 1:
                    tried += 1
                    self.same(tells(plan.fewer(thread)), True)
                    if records(plan):
                        self.same(records(plan.fewer(thread)), True)
        self.assertGreater(tried, 30)

    def test_along_a_map(self):
        for plan in PLANS:
            if tells(plan.mapped(*image_of(plan.kind))):
                self.same(tells(plan), True)

    def test_normal_turned_and_renamed_plans(self):
        for plan in PLANS:
            names = {name: "x" + name for name in plan.kind.names}
            numbers = tuple(reversed(range(plan.kind.size)))
            for other in (plan.exchanged(), plan.normal(), plan.renamed(names), plan.turned(numbers)):
                self.same((tells(other), records(other)), (tells(plan), records(plan)))


class SharingTest(Case):
    def test_equal_calls_return_equal_results(self):
        for plan in PLANS[::7]:
            again = Plan(Kind(plan.kind.operations), plan.start, *plan.teams)
            for call in (tells, records, lambda value: seen_by(value, 0, 1), lambda value: states_behind(value, 0)):
                self.same(call(plan), call(plan))
                self.same(call(again), call(plan))
            if not tells(plan):
                self.same(confusion(again), confusion(plan))
            if not records(plan):
                self.same(mixture(again), mixture(plan))

    def test_plans_stay_as_they_are(self):
        plan = Plan(fading_kind(2), 0, ("seta", "setb"), ("setb",))
        before = shown(plan)
        for call in (tells, records, confusion, mixture, lambda value: seen_by(value, 0, 0)):
            call(plan)
            self.assertEqual(shown(plan), before)


if __name__ == "__main__":
    unittest.main()
