"""Several kinds: [13.1], [0.16], stage 13."""

import itertools
import random
import unittest

from teamtells.base.kinds import Kind, beside
from teamtells.base.made import adder_kind, cell_kind, fading_kind, flag_kind, highest_kind, queue_kind, slot_kind
from teamtells.errors import InvalidKind, InvalidNumber, InvalidOperation, InvalidSystem, NothingToUndo, TooMany
from teamtells.plans.plans import Plan
from teamtells.search.found import can_agree, first_plan, is_plan_paper, plan_paper
from teamtells.search.levels import level_of
from teamtells.sets.sets import (
    Choice, agreement_paper, best_level, can_agree_by, hopeless_paper, is_agreement_paper, is_hopeless_paper,
    level_classes, sufficient,
)
from teamtells.systems.checks import is_right
from teamtells.systems.programs import Program, System
from tests.cases import (
    SIXTY, Case, shown, values, values_but_kinds, values_but_numbers, values_but_systems,
)
from tests.systems import ALONE, CELL, CLAIMS, FLAG, PAIR, SLOT, some_systems
from tests.walks import Walk, near, normal_plans, some_kinds

THREE = (FLAG, CELL, SLOT)
KINDS = some_kinds(131, 40)
# Level 5, twelve states and six operations: 23184 candidates for five threads.
GREAT = fading_kind(5)
for extra in ("aa", "bb", "cc", "dd"):
    GREAT = GREAT.with_operation(extra, tuple((state, 1) for state in range(12)))
MANY_OF_GREAT = Plan(GREAT, 0, ("seta",), ("setb",) * 4)


def sets_of_kinds():
    chance = random.Random(132)
    sets = [THREE, THREE[:2], THREE[::-1], (CELL,), (SLOT,), (FLAG, FLAG), (cell_kind(3), CELL, highest_kind(2))]
    sets += [tuple(chance.choice(KINDS) for _ in range(chance.randint(1, 6))) for _ in range(60)]
    # Sets without endless kinds, and such by which no two or no three threads can agree.
    weak = [kind for kind in KINDS if level_of(kind) is not None]
    sets += [tuple(chance.choice(weak) for _ in range(chance.randint(1, 6))) for _ in range(40)]
    return sets


SETS = sets_of_kinds()


def values_but_kind_tuples(least, most):
    """All values but the tuples of so many kinds."""
    return [
        value for value in values() if not (
            isinstance(value, tuple) and least <= len(value) <= most and all(isinstance(kind, Kind) for kind in value)
        )
    ]


WRONG_KINDS = values_but_kind_tuples(1, 6) + [
    (FLAG,) * 7, (FLAG,) * 8, [FLAG], (FLAG, None), (FLAG, FLAG.operations), ((FLAG,), SLOT), FLAG, (),
]


class LevelsTest(Case):
    def test_best_levels_and_classes(self):
        for kinds in SETS:
            for most in (2, 3, 4):
                levels = [level_of(kind, most=most) for kind in kinds]
                wanted = None if None in levels else max(levels)
                self.same(best_level(kinds, most=most), wanted)
                order = sorted({level for level in levels if level is not None}) + [None] * (None in levels)
                classes = tuple(
                    (level, tuple(place for place, other in enumerate(levels) if other == level)) for level in order
                )
                self.same(level_classes(kinds, most=most), classes)
                self.same(sorted(place for _, places in classes for place in places), list(range(len(kinds))))

    def test_four_if_not_told(self):
        self.same((best_level((fading_kind(5),)), best_level((fading_kind(5),), most=6)), (4, 5))
        self.same(level_classes((fading_kind(5), FLAG), most=5), ((2, (1,)), (5, (0,))))
        self.same(level_classes((SLOT,)), ((None, (0,)),))
        for call in (best_level, level_classes):
            with self.assertRaises(TypeError):
                call((FLAG,), 3)

    def test_kinds_that_are_added_take_nothing_away(self):
        for kinds in SETS:
            for more in (CELL, FLAG, SLOT):
                if len(kinds) < 6:
                    before, behind = best_level(kinds), best_level((*kinds, more))
                    self.assertTrue(behind is None or before is not None and behind >= before)
                    self.same(sufficient((*kinds, more), 3)[:len(sufficient(kinds, 3))], sufficient(kinds, 3))

    def test_wrong_arguments(self):
        for call in (best_level, level_classes):
            self.refuses_each(call, (THREE,), ((InvalidKind, WRONG_KINDS),))
            for most in values_but_numbers(2, 6):
                self.refuses(InvalidNumber, most, call, THREE, most=most)
                self.refuses(InvalidKind, None, call, (), most=most)

    def test_too_many_candidates_of_any_kind(self):
        for call in (best_level, level_classes):
            for kinds in ((GREAT,), (SLOT, GREAT), (GREAT, SLOT), (CELL, FLAG, GREAT)):
                self.refuses(TooMany, 20000, call, kinds, most=5)
                self.refuses(TooMany, 20000, call, kinds, most=6)
                self.refuses(InvalidNumber, 7, call, kinds, most=7)
        self.same((best_level((CELL, GREAT)), best_level((GREAT, SLOT))), (4, None))


class AgreeTest(Case):
    def test_which_kinds_are_sufficient(self):
        for kinds in SETS:
            for threads in (2, 3, 4):
                found = tuple(place for place, kind in enumerate(kinds) if first_plan(kind, threads) is not None)
                self.same(sufficient(kinds, threads), found)
                self.same(can_agree_by(kinds, threads), found != ())

    def test_by_a_plain_walk(self):
        for kinds in SETS[::5]:
            for threads in (2, 3):
                found = [
                    place for place, kind in enumerate(kinds)
                    if kind.size * len(kind) ** threads < 200
                    and any(Walk(plan).tells for plan in normal_plans(kind, threads))
                ]
                self.assertTrue(set(found) <= set(sufficient(kinds, threads)))
                if all(kind.size * len(kind) ** threads < 200 for kind in kinds):
                    self.same(sufficient(kinds, threads), tuple(found))

    def test_up_to_six_threads(self):
        for threads in range(2, 7):
            self.same(sufficient((FLAG, fading_kind(3), SLOT, fading_kind(5), CELL), threads), {
                2: (0, 1, 2, 3), 3: (1, 2, 3), 4: (2, 3), 5: (2, 3), 6: (2,),
            }[threads])
            self.same(can_agree_by((CELL, SLOT), threads), True)
            self.same(can_agree_by((CELL, FLAG), threads), threads == 2)

    def test_wrong_arguments(self):
        wrong = ((InvalidKind, WRONG_KINDS), (InvalidNumber, values_but_numbers(2, 6)))
        for call in (can_agree_by, sufficient, agreement_paper):
            self.refuses_each(call, (THREE, 2), wrong)
            for threads in (0, 1, 7, True):
                self.refuses(InvalidNumber, threads, call, THREE, threads)
        self.refuses_each(is_agreement_paper, (THREE, 2, None), (*wrong, None))

    def test_too_many_candidates_of_any_kind(self):
        for call in (can_agree_by, sufficient, agreement_paper):
            for kinds in ((GREAT,), (SLOT, GREAT), (GREAT, SLOT), (GREAT, CELL)):
                for threads in (5, 6):
                    self.refuses(TooMany, 20000, call, kinds, threads)
            self.refuses(InvalidNumber, 1, call, (GREAT,), 1)
        self.same(sufficient((GREAT, SLOT), 4), (0, 1))


class AgreementTest(Case):
    def test_papers_that_are_made(self):
        words = set()
        for kinds in SETS:
            for threads in (2, 3):
                paper = agreement_paper(kinds, threads)
                words.add((paper[0], threads))
                self.same(is_agreement_paper(kinds, threads, paper), True)
                if paper[0] == "plan":
                    self.assertIn(paper[1], sufficient(kinds, threads))
                    self.same((paper[2].kind, Walk(paper[2]).tells), (kinds[paper[1]], True))
                else:
                    self.same((sufficient(kinds, threads), len(paper[1])), ((), len(kinds)))
                    for kind, part in zip(kinds, paper[1]):
                        self.same((part[0], is_plan_paper(kind, threads, part)), ("none", True))
        self.same(sorted(words), [("none", 2), ("none", 3), ("plan", 2), ("plan", 3)])

    def test_plans_of_others(self):
        race = Plan(FLAG, 0, ("set",), ("set",))
        self.same([is_agreement_paper(THREE, 2, ("plan", place, race)) for place in range(-1, 4)],
                  [False, True, False, False, False])
        self.same(is_agreement_paper((FLAG, FLAG), 2, ("plan", 1, race)), True)
        self.same(is_agreement_paper(THREE, 3, ("plan", 0, race.more(0, "set"))), False)
        for first, second in itertools.product((("seta",), ("setb",), ("seta", "setb")), repeat=2):
            plan = Plan(SLOT, 0, first, second)
            for threads in (2, 3):
                self.same(is_agreement_paper(THREE, threads, ("plan", 2, plan)),
                          len(plan) == threads and Walk(plan).tells)
        # Not normal, and for another thread than is asked for.
        other = Plan(SLOT, 0, ("setb", "setb"), ("seta",))
        self.same([is_agreement_paper((SLOT,), threads, ("plan", 0, other)) for threads in (2, 3, 4)],
                  [False, True, False])
        self.same(is_agreement_paper((GREAT,), 5, ("plan", 0, MANY_OF_GREAT)), True)

    def test_values_near_papers(self):
        for kinds, threads in ((THREE, 2), ((CELL, highest_kind(2)), 2), ((FLAG, cell_kind(1)), 3)):
            paper = agreement_paper(kinds, threads)
            self.same(is_agreement_paper(kinds, threads, paper), True)
            for value in near(paper):
                good = shown(value) == shown(paper)
                if isinstance(value, tuple) and len(value) == 2 and value[0] == "none" and not good:
                    good = isinstance(value[1], tuple) and len(value[1]) == len(kinds) and all(
                        is_plan_paper(kind, threads, part) and part[0] == "none" for kind, part in zip(kinds, value[1])
                    )
                self.same(is_agreement_paper(kinds, threads, value), good)

    def test_other_confusions(self):
        kinds = (CELL, FLAG)
        for threads in (3, 4):
            paper = ("none", tuple(plan_paper(kind, threads) for kind in kinds))
            self.same(is_agreement_paper(kinds, threads, paper), True)
            self.same(is_agreement_paper(kinds[::-1], threads, paper), False)
            self.same(is_agreement_paper(kinds, threads, ("none", paper[1][::-1])), False)
            self.same(is_agreement_paper(kinds, threads, ("none", list(paper[1]))), False)
            self.same(is_agreement_paper(kinds, threads, ("none", paper[1][:1])), False)
            self.same(is_agreement_paper(kinds, threads, ("none", paper[1] + paper[1][:1])), False)
            self.same(is_agreement_paper(kinds, threads, [*paper]), False)
            self.same(is_agreement_paper(kinds, 2, paper), False)
        plan = ("plan", Plan(FLAG, 0, ("set",), ("set",)))
        self.same(is_agreement_paper(kinds, 2, ("none", (plan_paper(CELL, 2), plan))), False)
        self.same(is_agreement_paper(kinds, 2, ("plan", True, plan[1])), False)
        self.same(is_agreement_paper(kinds, 2, ("plan", 1, plan[1])), True)

    def test_every_value_is_judged(self):
        race = Plan(FLAG, 0, ("set",), ("set",))
        for value in values():
            self.same(is_agreement_paper(THREE, 2, value), False)
            self.same(is_agreement_paper(THREE, 2, ("plan", value, race)), shown(value) == "0")
            self.same(is_agreement_paper(THREE, 2, ("plan", 0, value)), shown(value) == shown(race))
            self.same(is_agreement_paper((CELL,), 2, ("none", value)), False)
            self.same(is_agreement_paper((CELL,), 2, ("none", (value,))), False)


class HopelessTest(Case):
    def test_systems_of_many_sorts(self):
        words = set()
        for system in some_systems(133, 120):
            able = [kind for kind, _ in system.objects if len(system) > 1 and can_agree(kind, len(system))]
            hopeless = len(system) > 1 and not able
            words.add((len(system), hopeless))
            if hopeless:
                paper = hopeless_paper(system)
                self.same((is_hopeless_paper(system, paper), len(paper)), (True, len(system.objects)))
                for (kind, _), part in zip(system.objects, paper):
                    self.same((part[0], is_plan_paper(kind, len(system), part)), ("none", True))
                self.same(is_right(system), False)
            else:
                self.refuses(InvalidOperation, None, hopeless_paper, system)
        self.same(sorted(words), [(1, False), (2, False), (2, True), (3, False), (3, True)])

    def test_without_objects(self):
        system = System((), (ALONE, ALONE))
        self.same((hopeless_paper(system), is_hopeless_paper(system, ())), ((), True))
        self.same([is_hopeless_paper(system, value) for value in ([], None, ((),), 0)], [False] * 4)
        self.refuses(InvalidOperation, None, hopeless_paper, System((), (ALONE,)))
        self.same(is_hopeless_paper(System((), (ALONE,)), ()), False)

    def test_one_thread_and_systems_with_hope(self):
        for system in (PAIR, CLAIMS[0], CLAIMS[1], CLAIMS[2]):
            self.refuses(InvalidOperation, None, hopeless_paper, system)
            self.same(is_hopeless_paper(system, tuple(plan_paper(kind, 3) for kind, _ in system.objects)), False)
        one = System(((CELL, 0),), (ALONE,))
        self.same(is_hopeless_paper(one, (plan_paper(CELL, 2),)), False)

    def test_values_near_papers(self):
        three = System(PAIR.objects, PAIR.programs + PAIR.programs[:1])
        paper = hopeless_paper(three)
        self.same((is_hopeless_paper(three, paper), is_hopeless_paper(PAIR, paper)), (True, False))
        for value in near(paper):
            good = isinstance(value, tuple) and len(value) == 3 and all(
                is_plan_paper(kind, 3, part) and part[0] == "none" for (kind, _), part in zip(three.objects, value)
            )
            self.same(is_hopeless_paper(three, value), good)
        for value in (list(paper), paper[:2], paper + paper[:1], paper[::-1], ("none", paper), paper[1:] + paper[:1]):
            self.same(is_hopeless_paper(three, value), False)

    def test_every_value_is_judged(self):
        system = System(((CELL, 0),), (ALONE, ALONE))
        for value in values():
            self.same(is_hopeless_paper(system, value), False)
            self.same(is_hopeless_paper(system, (value,)), False)
        for value in values_but_systems():
            self.refuses(InvalidSystem, None, is_hopeless_paper, value, ())
            self.refuses(InvalidSystem, None, hopeless_paper, value)

    def test_sixteen_objects_of_many_kinds(self):
        rows = tuple(((state + 1) % 12, 0) for state in range(12))
        kinds = [Kind({name: rows for name in "abcdef"}), cell_kind(6), highest_kind(6), adder_kind(12)] * 4
        program = Program((("decide", 0),), (0, 0))
        system = System(tuple((kind, 0) for kind in kinds), (program,) * 4)
        paper = hopeless_paper(system)
        self.same((len(paper), is_hopeless_paper(system, paper)), (16, True))
        self.same(paper[:4] * 4 == paper, True)


class ChoiceRecord:
    """What a choice must be, kept plainly."""

    def __init__(self, goal):
        self.goal, self.kinds, self.past = goal, [], []

    def able(self):
        return [first_plan(kind, self.goal) is not None for kind in self.kinds]

    def change(self, kinds):
        self.past.append(self.kinds)
        self.kinds = kinds


class ChoiceTest(Case):
    def agrees(self, choice, record):
        able = record.able()
        self.same(choice.kinds, tuple(record.kinds))
        self.same((choice.goal, choice.leader), (record.goal, able.index(True) if True in able else None))
        self.same((bool(choice), len(choice)), (True in able, len(record.kinds)))
        self.same(str(choice), f"choice for {record.goal} threads: {len(record.kinds)} kinds")

    def deed(self, chance, choice, record, twins):
        word = chance.choice(["put", "put", "put", "drop", "drop", "undo", "refused", "twin"])
        if word == "put":
            kind = chance.choice(KINDS[:19] + [CELL] * 12)
            if len(record.kinds) == 6:
                self.refuses(TooMany, 6, choice.put, kind)
            else:
                found = choice.put(kind)
                record.change(record.kinds + [kind])
                self.same(found, True in record.able())
        elif word == "drop":
            index = chance.randint(-1, len(record.kinds))
            if not 0 <= index < len(record.kinds):
                self.refuses(InvalidNumber, index, choice.drop, index)
            else:
                found = choice.drop(index)
                record.change(record.kinds[:index] + record.kinds[index + 1:])
                self.same(found, True in record.able())
        elif word == "undo":
            many = chance.choice([0, 1, 1, 2, len(record.past), len(record.past) + 1])
            if many > len(record.past):
                self.refuses(NothingToUndo, many, choice.undo, many=many)
            else:
                found = choice.undo(many=many)
                for _ in range(many):
                    record.kinds = record.past.pop()
                self.same(found, True in record.able())
        elif word == "twin":
            twins.append((choice.twin(), list(record.kinds), list(record.past)))
        else:
            self.refuses(InvalidKind, None, choice.put, None)
            self.refuses(InvalidNumber, True, choice.drop, True)

    def test_beside_a_plain_record(self):
        chance = random.Random(134)
        for goal in (2, 3, 4, 2, 3, 5, 6):
            choice, record, twins = Choice(goal), ChoiceRecord(goal), []
            for _ in range(60):
                self.deed(chance, choice, record, twins)
                self.agrees(choice, record)
            for twin, kinds, past in twins:
                other = ChoiceRecord(goal)
                other.kinds, other.past = kinds, past
                self.agrees(twin, other)
                self.deed(chance, twin, other, [])
                self.agrees(twin, other)
            self.agrees(choice, record)

    def test_one_by_one(self):
        choice = Choice(3)
        self.same([choice.put(FLAG), choice.put(CELL), choice.put(SLOT), choice.leader], [False, False, True, 2])
        self.same([choice.drop(0), choice.leader, choice.drop(1), choice.leader], [True, 1, False, None])
        self.same([choice.undo(), choice.undo(many=0), choice.undo(many=2), choice.kinds == (FLAG, CELL)],
                  [True, True, False, True])
        self.same([choice.undo(many=2), len(choice), bool(choice), choice.leader], [False, 0, False, None])
        self.same(str(Choice(3)), "choice for 3 threads: 0 kinds")
        with self.assertRaises(TypeError):
            choice.undo(1)

    def test_a_seventh_kind(self):
        choice = Choice(2)
        for number in range(6):
            self.same((choice.put(CELL), len(choice)), (False, number + 1))
        before = shown(choice)
        self.refuses(TooMany, 6, choice.put, FLAG)
        self.refuses(InvalidKind, None, choice.put, None)
        self.assertEqual(shown(choice), before)
        choice.drop(5)
        self.same((choice.put(FLAG), choice.leader, choice.undo(many=3), len(choice)), (True, 5, False, 5))

    def test_too_many_candidates(self):
        for goal in (5, 6):
            choice = Choice(goal)
            choice.put(SLOT)
            before = shown(choice)
            self.refuses(TooMany, 20000, choice.put, GREAT)
            self.assertEqual(shown(choice), before)
            for _ in range(5):
                choice.put(CELL)
            self.refuses(TooMany, 6, choice.put, GREAT)
            self.same((choice.undo(many=6), len(choice)), (False, 0))
        self.same(Choice(4).put(GREAT), True)

    def test_wrong_arguments(self):
        self.refuses_each(Choice, (2,), ((InvalidNumber, values_but_numbers(2, 6)),))
        for threads in (0, 1, 7):
            self.refuses(InvalidNumber, threads, Choice, threads)
        choice = Choice(2)
        for value in values_but_numbers(0, -1):
            self.refuses(InvalidNumber, value, choice.drop, value)
        choice.put(FLAG)
        before = shown(choice)
        for value in values_but_kinds():
            self.refuses(InvalidKind, None, choice.put, value)
        for value in values_but_numbers(0, 0):
            self.refuses(InvalidNumber, value, choice.drop, value)
        for value in values_but_numbers(0, SIXTY):
            self.refuses(InvalidNumber, value, choice.undo, many=value)
        for many in (2, 3, SIXTY):
            self.refuses(NothingToUndo, many, choice.undo, many=many)
        self.assertEqual(shown(choice), before)
        self.same((choice.undo(), len(choice)), (False, 0))
        self.refuses(NothingToUndo, 1, choice.undo)

    def test_equal_ones(self):
        def with_kinds(goal, *kinds):
            choice = Choice(goal)
            for kind in kinds:
                choice.put(kind)
            return choice

        one = with_kinds(2, FLAG, CELL)
        other = with_kinds(2, SLOT, flag_kind(), cell_kind(2))
        self.assertIs(one == other, False)
        other.drop(0)
        self.assertIs(one == other, True)
        self.assertIs(one != other, False)
        for value in values() + [with_kinds(3, FLAG, CELL), with_kinds(2, CELL, FLAG), with_kinds(2, FLAG), Choice(2)]:
            self.assertIs(one == value, False)
            self.assertIs(one != value, True)
        for call in (list, iter):
            with self.assertRaises(TypeError):
                call(one)

    def test_twins_go_on_by_themselves(self):
        choice = Choice(2)
        choice.put(CELL)
        choice.put(FLAG)
        twin = choice.twin()
        self.assertIs(choice == twin, True)
        self.same([twin.drop(1), choice.leader, choice.undo(), len(twin)], [False, 1, False, 1])
        self.same([twin.undo(many=3), len(choice), len(twin)], [False, 1, 0])
        kinds = choice.kinds
        choice.put(SLOT)
        self.same((kinds, choice.kinds), ((CELL,), (CELL, SLOT)))


class SharingTest(Case):
    def test_arguments_stay_as_they_are(self):
        kinds = (FLAG, beside(FLAG, CELL), queue_kind(1), slot_kind(1))
        before = shown(kinds)
        for call in (best_level, level_classes):
            self.same(call(kinds), call(kinds))
        for call in (can_agree_by, sufficient, agreement_paper):
            self.same(call(kinds, 2), call(kinds, 2))
        choice = Choice(2)
        choice.put(kinds[0])
        choice.kinds[0].operations.clear()
        agreement_paper(kinds, 2)[2].kind.operations.clear()
        self.assertEqual(shown(kinds), before)
        self.same((choice.leader, choice.kinds), (0, (FLAG,)))

    def test_sorts_of_results(self):
        for value in (level_classes(THREE), sufficient(THREE, 2), agreement_paper(THREE, 2), Choice(2).kinds,
                      hopeless_paper(System((), (ALONE, ALONE)))):
            self.assertIs(value.__class__, tuple)


if __name__ == "__main__":
    unittest.main()
