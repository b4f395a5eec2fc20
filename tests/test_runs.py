"""Runs of systems: [0.14], [8.1], stage 8."""

import random
import unittest

from teamtells.base.made import adder_kind
from teamtells.errors import InvalidInputs, InvalidNumber, InvalidOperation, InvalidSystem, NothingToUndo
from teamtells.systems.programs import Program, System
from teamtells.systems.runs import Run, first_configuration, is_configuration, next_configuration
from tests.cases import (
    SIXTY, SIXTY_ONE, Case, shown, values, values_but, values_but_numbers, values_but_systems,
)
from tests.systems import (
    ALONE, CELL, CLAIM, CLAIMS, FLAG, PAIR, SLOT, TAKE, WAITING, decisions_of, first_moment, inputs_of, restarted,
    some_systems, stepped,
)
from tests.walks import near

SYSTEMS = some_systems(41, 70)
ADDER = System(((adder_kind(12), 0),), (Program(
    (
        ("do", 0, "add", {answer: 0 if answer < 11 else 1 for answer in range(12)}),
        ("read", 0, dict.fromkeys(range(12), 0)),
    ),
    (0, 0),
),))


def facts(run):
    return shown((
        run.configuration, run.trail, run.replies, run.active, run.decisions, run.decided, len(run), str(run),
        bool(run),
    ))


def configurations(system):
    """All configurations, reached or not, of a small system."""
    found = [((), ())]
    for kind, _ in system.objects:
        found = [((*states, state), rows) for states, rows in found for state in range(kind.size)]
    for program in system.programs:
        found = [(states, (*rows, row)) for states, rows in found for row in range(len(program))]
    return found


class ConfigurationTest(Case):
    def test_first_ones(self):
        for system in SYSTEMS:
            for inputs in inputs_of(system):
                self.same(first_configuration(system, inputs), first_moment(system, inputs)[:2])

    def test_next_ones(self):
        for system in SYSTEMS:
            for configuration in configurations(system)[::7]:
                for thread in range(len(system)):
                    step = stepped(system, (*configuration, ()), thread)
                    if step is None:
                        self.refuses(InvalidOperation, None, next_configuration, system, configuration, thread)
                    else:
                        self.same(next_configuration(system, configuration, thread), step[0][:2])

    def test_which_values_are_configurations(self):
        for system in SYSTEMS[:6] + SYSTEMS[-20:]:
            right = configurations(system)
            texts = {shown(value) for value in right}
            for value in right[:50] + right[-50:] + values() + near(right[0]) + near(right[-1]):
                self.same(is_configuration(system, value), shown(value) in texts)

    def test_edges_of_configurations(self):
        self.same(is_configuration(PAIR, ((1, 1, 1), (6, 6))), True)
        for value in (((1, 1, 2), (6, 6)), ((1, 1, 1), (6, 7)), ((1, 1, -1), (6, 6)), ((1, 1, True), (6, 6)),
                      ((1, 1, 1), (False, 6)), [(1, 1, 1), (6, 6)], ([1, 1, 1], (6, 6)), ((1, 1, 1), [6, 6]),
                      ((1, 1), (6, 6)), ((1, 1, 1), (6,)), ((1, 1, 1), (6, 6), ()), ((1, 1, 1, 1), (6, 6))):
            self.same(is_configuration(PAIR, value), False)
        self.same([is_configuration(System((), (ALONE,)), value) for value in (((), (1,)), ((), (2,)), ((0,), (1,)))],
                  [True, False, False])

    def test_wrong_arguments(self):
        systems = (InvalidSystem, values_but_systems())
        inputs = (InvalidInputs, values_but((0, 1), (1, 0), (0, 0)))
        wrong = [value for value in values() if shown(value) != shown(((0, 0, 0), (0, 0)))]
        self.refuses_each(is_configuration, (PAIR, None), (systems, None))
        self.refuses_each(first_configuration, (PAIR, (0, 1)), (systems, inputs))
        self.refuses_each(next_configuration, (PAIR, ((0, 0, 0), (0, 0)), 0),
                          (systems, (InvalidInputs, wrong), (InvalidNumber, values_but_numbers(0, 1))))
        self.refuses(InvalidNumber, 2, next_configuration, PAIR, ((0, 0, 0), (4, 4)), 2)
        self.refuses(InvalidOperation, None, next_configuration, PAIR, ((0, 0, 0), (4, 0)), 0)

    def test_wrong_inputs(self):
        right = [shown(inputs) for inputs in inputs_of(PAIR)]
        for value in values() + near((0, 1)) + near((1, 1)):
            if shown(value) not in right:
                self.refuses(InvalidInputs, None, first_configuration, PAIR, value)
                self.refuses(InvalidInputs, None, Run, PAIR, value)
        for value in values_but_numbers(0, 1):
            self.refuses(InvalidInputs, None, Run, PAIR, (0, value))
            self.refuses(InvalidInputs, None, Run, PAIR, (value, 0))


class StepTest(Case):
    def test_steps_and_restarts_one_by_one(self):
        chance = random.Random(42)
        for system in SYSTEMS:
            inputs = chance.choice(inputs_of(system))
            run, moment = Run(system, inputs), first_moment(system, inputs)
            self.same((run.system, run.inputs), (system, inputs))
            trail, replies = [], []
            for _ in range(25):
                thread = chance.randrange(len(system))
                if chance.random() < 0.15:
                    moment = restarted(system, moment, thread, inputs)
                    self.same(run.restart(thread), system.programs[thread].starts[inputs[thread]])
                    trail.append(("restart", thread))
                    replies.append(None)
                elif stepped(system, moment, thread) is None:
                    self.refuses(InvalidOperation, None, run.go, thread)
                else:
                    moment, told = stepped(system, moment, thread)
                    self.same(run.go(thread), told)
                    trail.append(thread)
                    replies.append(told)
                self.same((run.trail, run.replies, len(run)), (tuple(trail), tuple(replies), len(trail)))
                self.same((*run.configuration, run.decided), moment)
                decisions = decisions_of(system, moment[1])
                active = tuple(thread for thread, decision in enumerate(decisions) if decision is None)
                self.same((run.decisions, run.active, bool(run)), (decisions, active, active != ()))
                self.same(str(run), f"run of {len(system)} threads: {len(trail)} deeds, {len(active)} active")

    def test_threads_that_have_decided_at_first(self):
        run = Run(System((), (ALONE, ALONE)), (1, 0))
        self.same((run.decisions, run.decided, run.active, bool(run)), ((1, 0), (0, 1), (), False))
        for thread in (0, 1):
            self.refuses(InvalidOperation, None, run.go, thread)
            self.same((run.restart(thread), run.alone(thread)), (1 - thread, 0))
        self.same((run.trail, run.replies), ((("restart", 0), ("restart", 1)), (None, None)))

    def test_decisions_of_all_times(self):
        program = Program((("do", 0, "set", {0: 1, 1: 2}), ("decide", 0), ("decide", 1)), (0, 0))
        run = Run(System(((FLAG, 0),), (program,)), (0,))
        self.same([run.decided, run.go(0), run.decided, run.restart(0), run.decided, run.go(0), run.decided],
                  [(), 0, (0,), 0, (0,), 1, (0, 1)])
        self.same((run.decisions, run.undo(), run.decided, run.decisions), ((1,), (0,), (0,), (None,)))

    def test_wrong_threads(self):
        run = Run(PAIR, (0, 1))
        run.go(1)
        before = facts(run)
        for value in values_but_numbers(0, 1):
            for call in (run.go, run.restart, run.alone):
                self.refuses(InvalidNumber, value, call, value)
            self.refuses(InvalidNumber, value, run.alone, value, most=-1)
        self.assertEqual(facts(run), before)

    def test_wrong_arguments(self):
        self.refuses_each(Run, (PAIR, (0, 1)),
                          ((InvalidSystem, values_but_systems()), (InvalidInputs, values_but((0, 1), (1, 0), (0, 0)))))


class AloneTest(Case):
    def test_until_it_has_decided(self):
        run = Run(PAIR, (0, 1))
        self.same([run.alone(0), run.decisions, run.alone(0), run.trail], [3, (0, None), 0, (0, 0, 0)])
        self.same([run.alone(1, most=2), run.alone(1, most=0), run.alone(1), run.decisions], [2, 0, 1, (0, 0)])

    def test_at_most_so_many(self):
        for most in (0, 1, 5, 999, 1000):
            run = Run(ADDER, (0,))
            self.same((run.alone(0, most=most), len(run)), (most, most))
        run = Run(ADDER, (1,))
        self.same((run.alone(0), len(run)), (100, 100))
        before = facts(run)
        for value in values_but_numbers(0, 1000) + [1001]:
            self.refuses(InvalidNumber, value, run.alone, 0, most=value)
        self.refuses(InvalidNumber, 1, run.alone, 1, most=1001)
        self.assertEqual(facts(run), before)
        with self.assertRaises(TypeError):
            run.alone(0, 5)


class FollowTest(Case):
    def test_deeds_one_behind_the_other(self):
        run = Run(PAIR, (0, 1))
        self.same(run.follow((0, 1, 1, 0, ("restart", 1), 0)), (0, 0, 0, 1, None, 1))
        self.same(run.trail, (0, 1, 1, 0, ("restart", 1), 0))
        self.same(run.follow(()), ())
        self.same(run.follow((1,)), (0,))
        self.same(run.replies, (0, 0, 0, 1, None, 1, 0))

    def test_none_is_done_if_one_cannot(self):
        run = Run(PAIR, (0, 1))
        run.follow((0, ("restart", 0), 1))
        before = facts(run)
        for deeds in ((0, 0, 0, 0), (2,), (0, -1), (0, ("restart", 2)), (0, ("Restart", 0)), (0, ("restart",)), [0], 0,
                      (0, ["restart", 0]), (True,), (0, ("restart", True)), (0, None), (0, ("restart", 0, 0)), ((0,),),
                      {0: 0}, None, "0", (0, (0, "restart")), (SIXTY,), (SIXTY_ONE,), ("restart", 0)):
            self.refuses(InvalidOperation, None, run.follow, deeds)
            self.assertEqual(facts(run), before)

    def test_every_value(self):
        run = Run(PAIR, (0, 1))
        before = facts(run)
        right = [shown(value) for value in ((), (0,), (1,), (0, 0), (0, 1), (1, 0))]
        for value in values():
            if shown(value) not in right:
                self.refuses(InvalidOperation, None, run.follow, value)
            if shown(value) not in ("0", "1"):
                self.refuses(InvalidOperation, None, run.follow, (value,))
                self.refuses(InvalidOperation, None, run.follow, (0, value))
            self.refuses(InvalidOperation, None, run.follow, (("restart", value), 2))
            self.refuses(InvalidOperation, None, run.follow, ((value, 0),))
        self.assertEqual(facts(run), before)


class UndoTest(Case):
    def test_how_many(self):
        deeds = (0, 1, ("restart", 0), 1, 0, 1)
        for many in range(len(deeds) + 1):
            run, other = Run(PAIR, (0, 1)), Run(PAIR, (0, 1))
            run.follow(deeds)
            other.follow(deeds[:len(deeds) - many])
            self.same(run.undo(many=many), tuple(reversed(deeds))[:many])
            self.assertEqual(facts(run), facts(other))
            self.assertIs(run == other, True)

    def test_more_than_there_are(self):
        run = Run(PAIR, (0, 1))
        self.refuses(NothingToUndo, 1, run.undo)
        run.follow((0, 1, 0))
        before = facts(run)
        for many in (4, 5, 10 ** 59, SIXTY):
            self.refuses(NothingToUndo, many, run.undo, many=many)
        for value in values_but_numbers(0, SIXTY):
            self.refuses(InvalidNumber, value, run.undo, many=value)
        self.assertEqual(facts(run), before)
        self.same([run.undo(), run.undo(many=0), run.undo(many=2), len(run)], [(0,), (), (1, 0), 0])
        with self.assertRaises(TypeError):
            run.undo(1)

    def test_deeds_can_be_done_again(self):
        run = Run(CLAIMS[1], (0, 1))
        self.same([run.go(0), run.undo(), run.go(1), run.go(0), run.decisions], [1, (0,), 2, 2, (1, 1)])


class TwinTest(Case):
    def test_twins_go_on_by_themselves(self):
        run = Run(PAIR, (0, 1))
        run.follow((0, ("restart", 1), 0))
        twin = run.twin()
        self.assertIs(twin == run, True)
        self.assertEqual(facts(twin), facts(run))
        twin.go(1)
        self.same((run.trail, twin.trail), ((0, ("restart", 1), 0), (0, ("restart", 1), 0, 1)))
        run.undo(many=3)
        run.go(1)
        self.same((run.trail, twin.trail, twin.configuration), ((1,), (0, ("restart", 1), 0, 1), ((1, 0, 1), (3, 2))))
        self.same((twin.undo(many=2), run.trail), ((1, 0), (1,)))

    def test_equal_ones(self):
        def behind(deeds, system=PAIR, inputs=(0, 1)):
            run = Run(system, inputs)
            run.follow(deeds)
            return run

        self.assertIs(behind((0, 1)) == behind((0, 1), System(PAIR.objects, PAIR.programs)), True)
        others = [behind((1, 0)), behind((0,)), behind((0, 1), inputs=(1, 1)), behind((0, 1), PAIR.opposite(), (0, 1))]
        for other in others + [value for value in values()]:
            self.assertIs(behind((0, 1)) == other, False)
            self.assertIs(behind((0, 1)) != other, True)

    def test_runs_are_not_iterated(self):
        for call in (list, iter):
            with self.assertRaises(TypeError):
                call(Run(PAIR, (0, 1)))


class SharingTest(Case):
    def test_what_was_returned_stays(self):
        run = Run(PAIR, (0, 1))
        run.follow((0, 1))
        kept = (run.trail, run.replies, run.configuration, run.active, run.decisions, run.decided)
        before = shown(kept)
        run.follow((0, 1, 0))
        self.assertEqual(shown(kept), before)
        for value in kept + (run.follow(()), run.undo(), next_configuration(PAIR, kept[2], 0)):
            self.assertIs(value.__class__, tuple)

    def test_the_system_stays(self):
        before = shown(PAIR)
        run = Run(PAIR, (0, 1))
        run.alone(0)
        run.system.programs[0].rows[0][3].clear()
        run.restart(0)
        run.alone(1)
        self.assertEqual(shown(PAIR), before)
        self.same(run.decisions, (None, 0))

    def test_two_runs_of_one_system(self):
        one, other = Run(CLAIMS[1], (0, 1)), Run(CLAIMS[1], (0, 1))
        one.go(0)
        self.same((len(other), other.go(1), one.configuration), (0, 2, ((1,), (2, 1))))

    def test_moves_that_were_passed(self):
        moves = {1: 2, 2: 3}
        rows = (("do", 0, "seta", moves), ("do", 0, "setb", moves), ("decide", 0), ("decide", 1))
        run = Run(System(((SLOT, 0),), (Program(rows, (0, 1)),)), (1,))
        moves[2] = 0
        self.same((run.go(0), run.configuration, CLAIM.rows[3]), (2, ((2,), (3,)), ("decide", 1)))
        self.same((CELL.size, len(WAITING), len(TAKE)), (2, 2, 7))


if __name__ == "__main__":
    unittest.main()
