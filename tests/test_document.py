"""The examples of the document, with their answers as they are written there."""

import unittest

from teamtells.base.kinds import Kind, beside, cut_kind, image_of, is_map
from teamtells.base.made import cell_kind, fading_kind, flag_kind, queue_kind, slot_kind
from teamtells.make.changes import pulled_back, reordered, shortened, spread, without_thread
from teamtells.make.makers import agreeing_system, lasting_system, made_system
from teamtells.plans.plans import Plan
from teamtells.plans.telling import first_team, is_confusion, is_mixture, records, seen_by, tells
from teamtells.search.found import can_agree, count_candidates, first_plan, greatest_plans, plan_paper
from teamtells.search.levels import endless_plans, is_endless_confusion, level_of, level_paper
from teamtells.sets.sets import agreement_paper, best_level, can_agree_by, level_classes, sufficient
from teamtells.systems.checks import found_fault, is_fault, is_right, longest, reached_moments, right_paper
from teamtells.systems.critical import decisions_ahead, is_critical, is_open, plan_at
from teamtells.systems.programs import Program, System
from teamtells.systems.runs import Run
from teamtells.text.shell import Shell
from teamtells.text.texts import read_plan, write_kind, write_plan, write_program
from tests.cases import Case

FLAG = flag_kind()
SLOT = slot_kind(2)
RACE = Plan(FLAG, 0, ("set",), ("set",))
ADD = Kind({"add": ((1, 0), (2, 1), (0, 2))})

CELL = cell_kind(2)
TAKE = Program(
    (
        ("do", 1, "puta", {0: 2}), ("do", 1, "putb", {0: 2}), ("do", 0, "set", {0: 3, 1: 5}),
        ("read", 1, {0: 4, 1: 6}), ("decide", 0), ("read", 2, {0: 4, 1: 6}), ("decide", 1),
    ),
    (0, 1),
)
PAIR = System(((FLAG, 0), (CELL, 0), (CELL, 0)), (TAKE, TAKE.on({0: 0, 1: 2, 2: 1})))


class ExamplesTest(Case):
    def test_stage_1(self):
        self.same(
            [
                ADD.after(2, "add"), ADD.answers("add"), str(ADD.silent()), image_of(ADD.silent())[1],
                is_map(ADD, ADD, (1, 2, 0)), beside(ADD, FLAG).after(4, "add"),
            ],
            [(0, 2), (0, 1, 2), 'kind of 3 states: add', (0, 0, 0), False, (0, 2)],
        )
        self.same(
            [
                ADD.turned((1, 2, 0)).operations, cut_kind(beside(ADD, FLAG).without("add"), 3)[1],
                len(beside(ADD, FLAG)),
            ],
            [{'add': ((1, 2), (2, 0), (0, 1))}, (3,), 2],
        )

    def test_stage_2(self):
        self.same(
            [
                fading_kind(2).operations["setb"], queue_kind(1).names, queue_kind(2).after(3, "leave"),
                slot_kind(2).after(1, "setb"), cell_kind(3).answers("puta"),
            ],
            [
                ((3, 0), (2, 0), (5, 0), (4, 0), (5, 0), (5, 0)), ('joina', 'joinb', 'leave'), (1, 1), (1, 1), (0,),
            ],
        )

    def test_stage_3(self):
        self.same(
            [
                list(RACE.orders(team=1)), RACE.played((1, 0)), str(RACE.more(0, "set")),
                RACE.more(1, "set").normal().teams,
            ],
            [[(1,), (1, 0)], (1, {0: 1, 1: 0}), 'plan for 3 threads: set set | set', (('set',), ('set', 'set'))],
        )

    def test_stage_4(self):
        self.same(
            [
                seen_by(RACE, 0, 0), seen_by(RACE, 0, 1), tells(RACE), tells(RACE.more(0, "set")),
                is_confusion(RACE.more(0, "set"), (1, (0, 1), (2, 1))),
            ],
            [((0, 1),), ((1, 1),), True, False, True],
        )
        self.same(
            [
                first_team(RACE, 1, 1, 1), records(RACE), is_mixture(RACE, ("both", (0,), (1, 0))),
                records(Plan(SLOT, 0, ("seta", "seta"), ("setb",))),
            ],
            [0, False, True, True],
        )

    def test_stage_5(self):
        self.same(
            [
                count_candidates(SLOT, 3), str(first_plan(SLOT, 3)), can_agree(FLAG, 3), len(plan_paper(FLAG, 3)[1]),
                [str(plan) for plan in greatest_plans(FLAG, 2)],
            ],
            [18, 'plan for 3 threads: seta | setb setb', False, 2, ['plan for 2 threads: set | set']],
        )

    def test_stage_6(self):
        self.same(
            [
                level_of(FLAG), level_of(SLOT), endless_plans(SLOT)[0], level_of(fading_kind(3)),
                level_of(cell_kind(4)),
                level_paper(cell_kind(1))[:3],
            ],
            [2, None, (0, 'seta', 'setb'), 3, 1, ('just', 1, None)],
        )
        self.same(
            [
                is_endless_confusion(FLAG, 0, "set", "set", ("oO", "pO")),
                is_endless_confusion(FLAG, 0, "set", "set", ("O", "pO")),
                level_of(beside(FLAG, fading_kind(2)), most=3),
            ],
            [True, False, 2],
        )

    def test_stage_7(self):
        self.same(
            [str(TAKE), PAIR.rows, str(PAIR), PAIR.objects_of(1), TAKE.rows_from(3), TAKE.opposite().starts],
            ['program of 7 rows', 14, 'system of 2 threads, 3 objects', (0, 1, 2), (3, 4, 6), (1, 0)],
        )

    def test_stage_8(self):
        run = Run(PAIR, (0, 1))
        self.same(
            [run.go(0), run.go(1), run.go(1), run.go(0), run.configuration, run.alone(0), run.decisions, str(run)],
            [0, 0, 0, 1, ((1, 0, 1), (5, 3)), 1, (1, None), 'run of 2 threads: 5 deeds, 1 active'],
        )

    def test_stage_9(self):
        self.same(
            [
                is_right(PAIR), is_right(PAIR, restarts=True), len(reached_moments(PAIR, (0, 1))), longest(PAIR),
                found_fault(PAIR), len(right_paper(PAIR)),
            ],
            [True, False, 20, 6, None, 4],
        )
        fault = ("strange", (1, 1), (0, 0, ("restart", 0), 0, 0, 0))
        self.same(is_fault(PAIR, fault, restarts=True), True)

    def test_stage_10(self):
        self.same(
            [
                decisions_ahead(PAIR, (0, 1), (0, 0)), is_open(PAIR, (0, 1), (0,)), is_critical(PAIR, (0, 1), (1, 0)),
                plan_at(PAIR, (0, 1), (0, 1))[1] == RACE, plan_at(PAIR, (1, 0), (1, 0))[2],
            ],
            [(0,), True, True, True, (1, 0)],
        )

    def test_stage_11(self):
        self.same(
            [
                is_right(made_system(RACE)), is_right(agreeing_system(SLOT, 2)),
                is_right(lasting_system(Plan(SLOT, 0, ("seta",), ("setb",))), restarts=True),
                len(agreeing_system(FLAG, 1).objects),
            ],
            [True, True, True, 0],
        )

    def test_stage_12(self):
        loose = Kind({"set": ((1, 0), (2, 1), (2, 1))})
        self.same(
            [
                str(without_thread(PAIR, 0)), is_right(pulled_back(PAIR, 0, loose, 0, (0, 1, 1))),
                shortened(PAIR) == PAIR, spread(PAIR).rows, is_right(reordered(PAIR, (2, 0, 1), (1, 0))),
            ],
            ['system of 1 threads, 3 objects', True, True, 28, True],
        )

    def test_stage_13(self):
        three = (FLAG, cell_kind(2), SLOT)
        self.same(
            [
                best_level(three), best_level(three[:2]), level_classes(three), sufficient(three, 3),
                agreement_paper(three[:2], 2)[:2], can_agree_by(three[:2], 3),
            ],
            [None, 2, ((1, (1,)), (2, (0,)), (None, (2,))), (2,), ('plan', 0), False],
        )

    def test_stage_14(self):
        self.same(
            [
                write_kind(FLAG), write_plan(RACE.more(0, "set")), read_plan(FLAG, "0: set | set") == RACE,
                write_program(Program((("decide", 0), ("decide", 1)), (0, 1))),
            ],
            ['set 1/0 1/1', '0: set, set | set', True, '0 1; decide 0; decide 1'],
        )
        shell = Shell()
        self.same(
            [
                shell("enter flag set 1/0 1/1"), shell("grade flag"), shell("plan flag 2"), shell("plan flag 3"),
                shell("pin least flag 3"), shell("show nobody"), len(shell),
            ],
            ['flag 0 2', '2', '0: set | set', 'none', 'refused least flag 3', 'unknown nobody', 4],
        )

    def test_texts_that_are_named(self):
        both = Kind({"set": ((1, 0), (1, 1)), "add": ((1, 0), (0, 1))})
        self.same(write_kind(ADD), "add 1/0 2/1 0/2")
        self.same(write_plan(Plan(both, 0, ("set", "set"), ("add",))), "0: set, set | add")
        rows = (("do", 0, "set", {0: 2, 1: 3}), ("read", 1, {0: 2, 1: 2}), ("decide", 0))
        text = "0 1; do 0 set 0:2 1:3; read 1 0:2 1:2; decide 0"
        self.same(write_program(Program(rows + (("decide", 1),), (0, 1))), text + "; decide 1")


if __name__ == "__main__":
    unittest.main()
