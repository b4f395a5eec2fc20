"""Plans that are found: [0.12], [5.1], [5.2], stage 5."""

import itertools
import random
import unittest

from teamtells.base.kinds import Kind
from teamtells.base.made import cell_kind, fading_kind, flag_kind, highest_kind, queue_kind, slot_kind, swap_kind
from teamtells.errors import InvalidKind, InvalidNumber, TooMany
from teamtells.plans.plans import Plan
from teamtells.plans.telling import is_confusion, tells
from teamtells.search.found import (
    MAX_CANDIDATES, can_agree, candidates, count_candidates, first_plan, greatest_plans, is_plan_paper, plan_paper,
    telling_plans,
)
from tests.cases import Case, shown, values, values_but_kinds, values_but_numbers
from tests.walks import Walk, confusions, near, normal_plans, often_used_kinds, some_kind, some_kinds

FLAG = flag_kind()
SLOT = slot_kind(2)
KINDS = some_kinds(11, 45)


def great_kind(size, many):
    """A kind of so many states and operations whose operations all do the same."""
    row = tuple((min(state + 1, size - 1), 0) for state in range(size))
    return Kind({name: row for name in ("a", "b", "c", "d", "e", "f")[:many]})


class CandidateTest(Case):
    def test_all_normal_plans_in_their_order(self):
        for kind in KINDS:
            for threads in (2, 3, 4) if len(kind) < 4 else (2, 3):
                found = list(candidates(kind, threads))
                self.same(found, normal_plans(kind, threads))
                self.same(count_candidates(kind, threads), len(found))

    def test_five_and_six_threads(self):
        for kind in (flag_kind(), slot_kind(2), swap_kind(3)):
            for threads in (5, 6) if len(kind) < 3 else (5,):
                found = list(candidates(kind, threads))
                self.same(found, normal_plans(kind, threads))
                self.same(count_candidates(kind, threads), len(found))

    def test_how_many_for_many_operations(self):
        for size, many, threads, wanted in ((12, 6, 6, 69048), (12, 6, 5, 23184), (12, 5, 6, 27720), (12, 6, 2, 252)):
            self.same(count_candidates(great_kind(size, many), threads), wanted)
        self.same(len(list(candidates(great_kind(12, 6), 6))), 69048)

    def test_all_are_normal(self):
        for plan in candidates(slot_kind(3), 4):
            self.same((plan.is_normal(), len(plan), plan.kind == slot_kind(3)), (True, 4, True))

    def test_generators_go_on_by_themselves(self):
        one, other = candidates(SLOT, 3), candidates(SLOT, 3)
        first = [next(one), next(one)]
        self.same([next(other), next(other)], first)
        self.same(first + list(one), normal_plans(SLOT, 3))
        self.same(len(list(other)), 16)
        telling, again = telling_plans(SLOT, 3), telling_plans(SLOT, 3)
        plan = next(telling)
        self.same(next(again), plan)
        self.same([plan, *telling], [plan, *again])

    def test_errors_come_with_the_first_element(self):
        for call in (candidates, telling_plans):
            for kind, threads in ((None, 2), (FLAG, 1), (FLAG, 7), (FLAG, None)):
                call(kind, threads)
        telling_plans(great_kind(12, 6), 6)


class TellingTest(Case):
    def test_which_candidates_tell(self):
        for kind in KINDS:
            for threads in (2, 3):
                found = [plan for plan in normal_plans(kind, threads) if Walk(plan).tells]
                self.same(list(telling_plans(kind, threads)), found)
                self.same(first_plan(kind, threads), found[0] if found else None)
                self.same(can_agree(kind, threads), bool(found))

    def test_four_threads(self):
        for kind in (flag_kind(), slot_kind(2), fading_kind(2), queue_kind(1), swap_kind(2), cell_kind(2)):
            found = [plan for plan in normal_plans(kind, 4) if Walk(plan).tells]
            self.same(list(telling_plans(kind, 4)), found)
            self.same((first_plan(kind, 4), can_agree(kind, 4)), (found[0] if found else None, bool(found)))

    def test_five_and_six_threads(self):
        self.same(str(first_plan(SLOT, 6)), "plan for 6 threads: seta | setb setb setb setb setb")
        self.same([can_agree(fading_kind(5), threads) for threads in range(2, 7)], [True] * 4 + [False])
        self.same([can_agree(fading_kind(4), threads) for threads in range(2, 7)], [True] * 3 + [False] * 2)
        self.same([can_agree(queue_kind(2), 6), can_agree(highest_kind(3), 5), can_agree(cell_kind(2), 6)],
                  [True, False, False])

    def test_greatest_plans(self):
        for kind in often_used_kinds()[:12] + KINDS[20:30]:
            for threads in (2, 3) if len(kind) < 4 else (2,):
                found = []
                for plan in normal_plans(kind, threads):
                    more = [plan.more(team, name) for team in (0, 1) for name in kind.names]
                    if Walk(plan).tells and not any(Walk(greater).tells for greater in more):
                        found.append(plan)
                self.same(greatest_plans(kind, threads), tuple(found))

    def test_greatest_plans_of_five_threads(self):
        self.same([str(plan) for plan in greatest_plans(fading_kind(5), 5)][:1],
                  ["plan for 5 threads: seta | setb setb setb setb"])
        self.same(greatest_plans(SLOT, 5), ())
        self.same(greatest_plans(fading_kind(4), 5), ())

    def test_fewer_threads_and_more_operations(self):
        chance = random.Random(12)
        for kind in KINDS:
            for threads in (3, 4) if len(kind) < 4 else (3,):
                if can_agree(kind, threads):
                    self.same(can_agree(kind, threads - 1), True)
            more = kind.with_operation("more", some_kind(chance, kind.size, 1, (0, 1)).operations.popitem()[1])
            for plan in telling_plans(kind, 3):
                self.same(tells(Plan(more, plan.start, *plan.teams)), True)
            self.same(can_agree(more, 3) or not can_agree(kind, 3), True)


class LimitTest(Case):
    def test_more_than_20000_candidates(self):
        self.same(MAX_CANDIDATES, 20000)
        great = great_kind(12, 6)
        self.same(count_candidates(great, 5) > 20000, True)
        for call in (first_plan, can_agree, plan_paper, lambda kind, threads: next(telling_plans(kind, threads))):
            self.refuses(TooMany, 20000, call, great, 5)
            self.refuses(TooMany, 20000, call, great, 6)
        self.refuses(TooMany, 20000, greatest_plans, great, 4)
        self.refuses(TooMany, 20000, greatest_plans, great, 5)
        self.same(next(candidates(great, 6)), Plan(great, 0, ("a",), ("a",) * 5))

    def test_the_numbers_of_candidates_beside_the_limit(self):
        # 12 states, 5 operations: 10500 plans for 5 threads, 27720 for 6; 9 states, 6 operations: 17388 for 5.
        self.same([count_candidates(great_kind(12, 5), 5), count_candidates(great_kind(9, 6), 5)], [10500, 17388])
        for size, many, threads in ((12, 5, 5), (9, 6, 5)):
            self.same(can_agree(great_kind(size, many), threads), False)
        self.refuses(TooMany, 20000, can_agree, great_kind(12, 5), 6)
        # 10 states and 6 operations give 19320 plans for 5 threads, 11 states 21252.
        self.same(greatest_plans(great_kind(10, 6), 4), ())
        self.refuses(TooMany, 20000, greatest_plans, great_kind(11, 6), 4)
        self.refuses(TooMany, 20000, can_agree, great_kind(11, 6), 5)

    def test_the_judge_has_no_limit(self):
        great = great_kind(12, 6)
        self.same(is_plan_paper(great, 6, ("plan", Plan(great, 0, ("a",) * 3, ("b",) * 3))), False)
        found = tuple(first_confusion(plan) for plan in candidates(great, 5))
        self.same(is_plan_paper(great, 5, ("none", found)), True)
        self.same(is_plan_paper(great, 5, ("none", found[:-1])), False)
        self.same(is_plan_paper(great, 5, ("none", found[:-1] + (None,))), False)
        tall = slot_kind(6)
        self.same(count_candidates(tall, 6) > 20000, True)
        self.same(is_plan_paper(tall, 6, ("plan", Plan(tall, 0, ("setf",) * 2, ("seta",) * 4))), True)


def first_confusion(plan):
    """A confusion of a plan whose operations all do the same: the last thread cannot tell who was ahead."""
    last = len(plan) - 1
    return last, (0, last), (len(plan.teams[0]), last)


class PaperTest(Case):
    def test_papers_that_are_made(self):
        for kind in KINDS:
            for threads in (2, 3):
                word, part = plan_paper(kind, threads)
                self.same(is_plan_paper(kind, threads, (word, part)), True)
                plans = normal_plans(kind, threads)
                if any(Walk(plan).tells for plan in plans):
                    self.same((word, part in plans, Walk(part).tells), ("plan", True, True))
                else:
                    self.same((word, len(part)), ("none", len(plans)))
                    for plan, value in zip(plans, part):
                        self.assertIn(value, confusions(plan))

    def test_plans_whoever_made_them(self):
        for kind in (SLOT, fading_kind(2), FLAG):
            for few in (1, 2):
                for plan in all_plans(kind, few, 3 - few):
                    self.same(is_plan_paper(kind, 3, ("plan", plan)), Walk(plan).tells)
                    self.same(is_plan_paper(kind, 2, ("plan", plan)), False)
                    self.same(is_plan_paper(kind, 4, ("plan", plan)), False)
        other = Plan(slot_kind(3), 0, ("seta",), ("setb",))
        self.same([is_plan_paper(kind, 2, ("plan", other)) for kind in (SLOT, slot_kind(3))], [False, True])

    def test_all_confusions_are_right(self):
        flag = [confusions(plan) for plan in candidates(FLAG, 3)]
        for one in flag[0]:
            self.same(is_plan_paper(FLAG, 3, ("none", (one, flag[1][-1]))), True)
        for other in flag[1]:
            self.same(is_plan_paper(FLAG, 3, ("none", (flag[0][0], other))), True)

    def test_values_near_papers(self):
        for kind, threads in ((FLAG, 3), (SLOT, 3), (cell_kind(2), 2), (FLAG, 2)):
            paper = plan_paper(kind, threads)
            plans = list(candidates(kind, threads))
            for value in near(paper):
                good = isinstance(value, tuple) and len(value) == 2 and value[0] == paper[0] and self.is_right(
                    plans, *value)
                self.same(is_plan_paper(kind, threads, value), good)

    def is_right(self, plans, word, part):
        if word == "plan":
            return isinstance(part, Plan)
        if not isinstance(part, tuple) or len(part) != len(plans):
            return False
        return all(is_confusion(plan, value) for plan, value in zip(plans, part))

    def test_every_value_is_judged(self):
        for value in values():
            self.same(is_plan_paper(FLAG, 2, value), shown(value) == shown(("plan", Plan(FLAG, 0, ("set",), ("set",)))))
            self.same(is_plan_paper(FLAG, 3, value), False)
            self.same(is_plan_paper(FLAG, 2, ("plan", value)), isinstance(value, Plan))
            self.same(is_plan_paper(FLAG, 3, ("none", value)), False)
            self.same(is_plan_paper(FLAG, 3, ("none", (value, value))), False)


def all_plans(kind, few, many):
    """All plans with so many threads in their teams."""
    return [
        Plan(kind, start, names[:few], names[few:])
        for start in range(kind.size) for names in itertools.product(kind.names, repeat=few + many)
    ]


class ArgumentTest(Case):
    def test_wrong_arguments(self):
        kinds = (InvalidKind, values_but_kinds())
        threads = (InvalidNumber, values_but_numbers(2, 6))
        for call in (count_candidates, first_plan, can_agree, plan_paper):
            self.refuses_each(call, (FLAG, 2), (kinds, threads))
        for call in (lambda kind, many: next(candidates(kind, many)), lambda kind,
                many: next(telling_plans(kind, many))):
            self.refuses_each(call, (FLAG, 2), (kinds, threads))
        self.refuses_each(is_plan_paper, (FLAG, 2, None), (kinds, threads, None))
        self.refuses_each(greatest_plans, (FLAG, 2), (kinds, (InvalidNumber, values_but_numbers(2, 5))))

    def test_edges_of_threads(self):
        for call in (count_candidates, first_plan, can_agree, plan_paper, greatest_plans):
            for threads in (1, 7, True, 0, -2):
                self.refuses(InvalidNumber, threads, call, SLOT, threads)
                self.refuses(InvalidNumber, threads, call, great_kind(12, 6), threads)
        self.refuses(InvalidNumber, 6, greatest_plans, SLOT, 6)
        self.refuses(InvalidNumber, 6, greatest_plans, great_kind(12, 6), 6)
        self.same([count_candidates(FLAG, threads) for threads in range(2, 7)], [2, 2, 4, 4, 6])

    def test_kinds_stay_as_they_are(self):
        kind = fading_kind(2)
        before = shown(kind)
        plan_paper(kind, 3)
        greatest_plans(kind, 2)
        list(telling_plans(kind, 2))
        self.assertEqual(shown(kind), before)
        self.assertIs(greatest_plans(kind, 2).__class__, tuple)


if __name__ == "__main__":
    unittest.main()
