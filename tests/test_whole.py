"""What the document promises over the whole program: from plans to systems and back, and from texts to both."""

import random
import unittest

from teamtells.base.kinds import beside, cut_kind, image_of
from teamtells.base.made import cell_kind
from teamtells.desk.desk import Desk
from teamtells.errors import InvalidOperation
from teamtells.make.changes import reordered, shortened, spread, without_thread
from teamtells.make.makers import agreeing_system, is_made_of, lasting_system, made_system
from teamtells.plans.plans import Plan
from teamtells.plans.telling import records, tells
from teamtells.search.found import can_agree, first_plan, greatest_plans, telling_plans
from teamtells.search.levels import endless_plans, is_endless, level_of
from teamtells.sets.sets import Choice, best_level, can_agree_by, hopeless_paper, is_hopeless_paper, sufficient
from teamtells.systems.checks import found_fault, is_fault, is_right
from teamtells.systems.critical import critical_way, plan_at
from teamtells.systems.programs import Program, System
from teamtells.text.texts import read_kind, read_plan, read_program, write_kind, write_plan, write_program
from tests.cases import Case
from tests.roads import all_roads
from tests.systems import ALONE, CELL
from tests.test_desk import grade_of
from tests.walks import Walk, normal_plans, some_kinds

KINDS = some_kinds(171, 45)


def rank(level):
    return 99 if level is None else level


def system_for(chance, kind, threads):
    """A system with objects of the kind and cells: each thread puts its input, races, and reads what it will."""
    objects = ((kind, chance.randrange(kind.size)),) + ((CELL, 0),) * threads
    programs = []
    for thread in range(threads):
        name = chance.choice(kind.names)
        rows = [("do", thread + 1, "puta", {0: 2}), ("do", thread + 1, "putb", {0: 2})]
        reads = 3 + threads
        cells = {answer: chance.randint(3, 2 + threads) for answer in kind.answers(name)}
        rows.append(("do", 0, name, cells))
        rows += [("read", place, {0: reads, 1: reads + 1}) for place in range(1, threads + 1)]
        programs.append(Program((*rows, ("decide", 0), ("decide", 1)), (0, 1)))
    return System(objects, tuple(programs))


class AgreeTest(Case):
    def test_from_plans_to_systems_and_back(self):
        agreed = []
        for kind in KINDS:
            for threads in (2, 3):
                able = any(Walk(plan).tells for plan in normal_plans(kind, threads)) if small(kind, threads) else None
                plan = first_plan(kind, threads)
                self.assertIn(able, (None, plan is not None))
                self.same((can_agree(kind, threads), can_agree_by((kind,), threads)), (plan is not None,) * 2)
                if plan is None:
                    self.refuses(InvalidOperation, None, agreeing_system, kind, threads)
                    continue
                agreed.append(threads)
                system = agreeing_system(kind, threads)
                self.same((len(system), is_made_of(system, (kind,)), is_right(system)), (threads, True, True))
                place, found, _ = plan_at(system, *critical_way(system))
                self.same((system.objects[place][0] == kind, found.kind == kind), (True, True))
                self.same((tells(found), Walk(found).tells, len(found)), (True, True, threads))
                self.same(is_right(made_system(found)), True)
        self.same(sorted(set(agreed)), [2, 3])

    def test_no_plan_no_right_system(self):
        chance = random.Random(172)
        hopeless = 0
        for kind in KINDS:
            for threads in (2, 3):
                for _ in range(3):
                    system = system_for(chance, kind, threads)
                    self.same(is_made_of(system, (kind,)), True)
                    if can_agree(kind, threads):
                        self.refuses(InvalidOperation, None, hopeless_paper, system)
                        continue
                    hopeless += 1
                    self.same(is_hopeless_paper(system, hopeless_paper(system)), True)
                    self.same((is_right(system), all(roads.is_right() for roads in all_roads(system))), (False, False))
                    self.same(is_fault(system, found_fault(system)), True)
        self.assertGreater(hopeless, 50)

    def test_one_thread_can_always_agree(self):
        for kind in KINDS:
            self.same(is_right(agreeing_system(kind, 1), restarts=True), True)

    def test_systems_that_last(self):
        many = 0
        for kind in KINDS:
            for plan in list(telling_plans(kind, 2))[:4]:
                if records(plan):
                    many += 1
                    system = lasting_system(plan)
                    self.same((is_right(system, restarts=True), tells(plan_at(system, *critical_way(system))[1])),
                              (True, True))
        self.assertGreater(many, 10)

    def test_several_kinds(self):
        chance = random.Random(173)
        for _ in range(40):
            kinds = tuple(chance.choice(KINDS) for _ in range(chance.randint(1, 5)))
            for threads in (2, 3):
                able = sufficient(kinds, threads)
                choice = Choice(threads)
                for kind in kinds:
                    choice.put(kind)
                self.same((bool(choice), choice.leader), (able != (), able[0] if able else None))
                level = best_level(kinds)
                self.same(able != (), level is None or level >= threads)
                for place in able:
                    system = agreeing_system(kinds[place], threads)
                    self.same((is_made_of(system, kinds), is_right(system)), (True, True))


def small(kind, threads):
    return kind.size * len(kind) ** threads < 120


class LevelTest(Case):
    def test_plans_for_all_numbers_up_to_the_level(self):
        for kind in KINDS:
            level = level_of(kind)
            for threads in (2, 3, 4):
                self.same(can_agree(kind, threads), level is None or threads <= level)
            self.same(is_endless(kind), level is None)
            for start, one, other in endless_plans(kind)[:2]:
                for threads in (2, 3, 5):
                    self.same(tells(Plan(kind, start, (one,) * threads, (other,))), True)
            for plan in greatest_plans(kind, 2)[:3]:
                self.same([tells(plan.more(team, name)) for team in (0, 1) for name in kind.names],
                          [False] * (2 * len(kind)))

    def test_kinds_that_are_made_from_kinds(self):
        chance = random.Random(174)
        for kind in KINDS:
            level = rank(level_of(kind))
            self.assertLessEqual(rank(level_of(kind.silent())), level)
            self.assertLessEqual(rank(level_of(image_of(kind)[0])), level)
            self.assertLessEqual(rank(level_of(cut_kind(kind, chance.randrange(kind.size))[0])), level)
            for name in kind.names if len(kind) > 1 else ():
                self.assertLessEqual(rank(level_of(kind.without(name))), level)
            other = cell_kind(2).renamed({"puta": "x", "putb": "y"})
            if kind.size <= 6 and len(kind) <= 4:
                self.same(level_of(beside(kind, other)), level_of(kind))

    def test_grades_on_a_desk(self):
        for kind in KINDS:
            desk = Desk()
            desk.enter("kind", kind)
            self.same(desk.grades, {"kind": grade_of(kind)})
            desk.enter("quiet", kind.silent())
            self.same(desk.grades["quiet"], grade_of(kind.silent()))
            pin = ("least", "kind", 2)
            if can_agree(kind, 2):
                self.same(desk.pin(pin), ())
            else:
                self.same(desk.pin(("most", "kind", 1)), ())


class TextTest(Case):
    def test_from_texts_to_right_systems(self):
        for kind in KINDS:
            again = read_kind(write_kind(kind))
            for plan in list(telling_plans(kind, 2))[:1] + list(telling_plans(kind, 3))[:1]:
                read = read_plan(again, write_plan(plan))
                self.same((read, tells(read)), (plan, True))
                system = made_system(read)
                programs = tuple(read_program(write_program(program)) for program in system.programs)
                other = System(system.objects, programs)
                self.same((other == system, is_right(other)), (True, True))


class ChangedTest(Case):
    def test_changed_systems_have_plans_too(self):
        for kind in KINDS[::2]:
            for plan in list(telling_plans(kind, 3))[:1]:
                system = made_system(plan)
                turned = tuple(range(len(system.objects)))[::-1]
                for other in (spread(system), shortened(system), system.opposite(), without_thread(system, 0),
                              reordered(system, turned, (2, 0, 1))):
                    self.same((is_right(other), tells(plan_at(other, *critical_way(other))[1])), (True, True))
        self.same(len(System((), (ALONE,))), 1)


if __name__ == "__main__":
    unittest.main()
