"""Threads that do their operations one by one: class Watch of stage 4."""

import itertools
import unittest

from teamtells.base.kinds import Kind
from teamtells.base.made import flag_kind, slot_kind
from teamtells.errors import InvalidNumber, InvalidOperation, InvalidPlan, NothingToUndo
from teamtells.plans.plans import Plan
from teamtells.plans.telling import Watch
from tests.cases import SIXTY, SIXTY_ONE, Case, shown, values, values_but_numbers, values_but_plans
from tests.walks import Walk, parted_plans, played, some_kinds, some_plans

FLAG = flag_kind()
SLOT = slot_kind(2)
RACE = Plan(FLAG, 0, ("set",), ("set",))
TRIO = Plan(SLOT, 0, ("seta",), ("setb", "setb"))
PLANS = some_plans(7, some_kinds(7, 40), 2, 2, 4) + parted_plans(4)[::5]


def watched(plan, order):
    """A watch behind an order."""
    watch = Watch(plan)
    for thread in order:
        watch.go(thread)
    return watch


def facts(watch):
    return shown((watch.order, watch.state, len(watch), str(watch)))


class GoTest(Case):
    def test_at_first(self):
        watch = Watch(TRIO)
        self.same((watch.order, watch.state, len(watch), str(watch)), ((), 0, 0, "watch: nobody in state 0"))
        self.same(str(Watch(Plan(SLOT, 2, ("seta",), ("seta",)))), "watch: nobody in state 2")

    def test_all_whole_orders(self):
        for plan in PLANS:
            for order in itertools.permutations(range(len(plan))):
                watch = Watch(plan)
                for many, thread in enumerate(order, 1):
                    state, answers = played(plan, order[:many])
                    self.same(watch.go(thread), answers[thread])
                    self.same((watch.order, watch.state, len(watch)), (order[:many], state, many))

    def test_the_text(self):
        self.same(str(watched(RACE, (1, 0))), "watch: 1 0 in state 1")
        self.same(str(watched(TRIO, (2,))), "watch: 2 in state 2")

    def test_wrong_threads(self):
        watch = watched(TRIO, (1,))
        before = facts(watch)
        for value in values_but_numbers(0, 2):
            self.refuses(InvalidNumber, value, watch.go, value)
            self.refuses(InvalidNumber, value, watch.told, value)
        self.assertEqual(facts(watch), before)

    def test_twice_the_same_thread(self):
        watch = watched(TRIO, (2, 0))
        before = facts(watch)
        for thread in (0, 2):
            self.refuses(InvalidOperation, None, watch.go, thread)
        self.assertEqual(facts(watch), before)
        self.same(watch.go(1), 2)

    def test_wrong_plans(self):
        self.refuses_each(Watch, (TRIO,), ((InvalidPlan, values_but_plans()),))


class ToldTest(Case):
    def test_what_threads_know(self):
        for plan in PLANS:
            walk = Walk(plan)
            for order in plan.orders():
                watch = watched(plan, order)
                state, answers = played(plan, order)
                for thread in order:
                    sight = (answers[thread], state)
                    teams = [team for team in (0, 1) if sight in walk.seen[thread, team]]
                    self.same(watch.told(thread), teams[0] if len(teams) == 1 else None)
                for thread in set(range(len(plan))) - set(order):
                    self.refuses(InvalidOperation, None, watch.told, thread)

    def test_the_state_now_counts(self):
        # Behind one more operation the first thread cannot tell any more.
        kind = Kind({"a": ((1, 0), (3, 0), (3, 0), (3, 0)), "b": ((2, 0), (3, 0), (3, 0), (3, 0))})
        watch = Watch(Plan(kind, 0, ("a", "a"), ("b",)))
        watch.go(1)
        self.same(watch.told(1), 0)
        watch.go(2)
        self.same((watch.state, watch.told(1)), (3, None))

    def test_asking_changes_nothing(self):
        watch = watched(TRIO, (1, 0))
        before = facts(watch)
        self.same([watch.told(0), watch.told(1), watch.told(0)], [1, 1, 1])
        self.assertEqual(facts(watch), before)
        watch.undo(many=2)
        watch.go(0)
        self.same(watch.told(0), 0)

    def test_six_threads(self):
        plan = Plan(SLOT, 0, ("seta",) * 3, ("setb",) * 3)
        for order in list(plan.orders())[::25]:
            watch = watched(plan, order)
            self.same([watch.told(thread) for thread in order], [plan.team_of(order[0])] * len(order))


class UndoTest(Case):
    def test_how_many(self):
        for many in range(4):
            watch = watched(TRIO, (2, 0, 1))
            self.same(watch.undo(many=many), (1, 0, 2)[:many])
            self.same(watch, watched(TRIO, (2, 0, 1)[:3 - many]))
            self.same(facts(watch), facts(watched(TRIO, (2, 0, 1)[:3 - many])))

    def test_one_if_not_told(self):
        watch = watched(TRIO, (2, 0))
        self.same([watch.undo(), watch.state, watch.undo(), watch.state], [(0,), 2, (2,), 0])
        self.refuses(NothingToUndo, 1, watch.undo)
        self.same(watch.undo(many=0), ())

    def test_more_than_there_are(self):
        watch = watched(TRIO, (2, 0))
        before = facts(watch)
        for many in (3, 4, 100, 10 ** 59, SIXTY):
            self.refuses(NothingToUndo, many, watch.undo, many=many)
        self.assertEqual(facts(watch), before)

    def test_wrong_numbers(self):
        watch = watched(TRIO, (2, 0))
        before = facts(watch)
        for value in values_but_numbers(0, SIXTY):
            self.refuses(InvalidNumber, value, watch.undo, many=value)
        self.refuses(InvalidNumber, SIXTY_ONE, watch.undo, many=SIXTY_ONE)
        self.assertEqual(facts(watch), before)

    def test_only_by_keyword(self):
        with self.assertRaises(TypeError):
            watched(TRIO, (2, 0)).undo(1)

    def test_threads_can_go_again(self):
        watch = watched(TRIO, (0, 1))
        watch.undo(many=2)
        self.same([watch.go(1), watch.go(0), watch.order, watch.told(0)], [2, 2, (1, 0), 1])


class TwinTest(Case):
    def test_twins_go_on_by_themselves(self):
        watch = watched(TRIO, (1,))
        twin = watch.twin()
        self.assertIs(twin == watch, True)
        self.same(facts(twin), facts(watch))
        twin.go(0)
        self.same((watch.order, twin.order), ((1,), (1, 0)))
        watch.undo()
        watch.go(0)
        self.same((watch.order, watch.state, twin.order, twin.state), ((0,), 1, (1, 0), 2))
        self.same((watch.told(0), twin.told(0)), (0, 1))
        self.same(twin.undo(many=2), (0, 1))
        self.same((len(watch), len(twin)), (1, 0))

    def test_equal_ones(self):
        self.assertIs(Watch(TRIO) == Watch(Plan(slot_kind(2), 0, ("seta",), ("setb", "setb"))), True)
        self.assertIs(watched(TRIO, (1, 2)) == watched(TRIO, (1, 2)), True)
        for other in (watched(TRIO, (2, 1)), watched(TRIO, (1,)), Watch(TRIO), watched(TRIO.exchanged(), (1, 2))):
            self.assertIs(watched(TRIO, (1, 2)) == other, False)
            self.assertIs(watched(TRIO, (1, 2)) != other, True)

    def test_compared_with_every_value(self):
        for value in values():
            if not isinstance(value, Watch):
                self.assertIs(Watch(TRIO) == value, False)
                self.assertIs(Watch(TRIO) != value, True)

    def test_watches_are_not_iterated(self):
        for call in (list, iter, tuple):
            with self.assertRaises(TypeError):
                call(watched(TRIO, (1,)))
        with self.assertRaises(TypeError):
            1 in watched(TRIO, (1,))


class SharingTest(Case):
    def test_the_plan_stays(self):
        before = shown(TRIO)
        watch = watched(TRIO, (0, 1, 2))
        watch.undo(many=2)
        watch.told(0)
        self.assertEqual(shown(TRIO), before)

    def test_orders_that_were_returned_stay(self):
        watch = watched(TRIO, (2,))
        order = watch.order
        watch.go(0)
        self.same((order, watch.order), ((2,), (2, 0)))
        self.assertIs(order.__class__, tuple)
        self.assertIs(watch.undo().__class__, tuple)

    def test_two_watches_of_one_plan(self):
        one, other = Watch(TRIO), Watch(TRIO)
        one.go(1)
        self.same((len(one), len(other), other.go(1), one == other), (1, 0, 2, True))


if __name__ == "__main__":
    unittest.main()
