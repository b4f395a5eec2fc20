"""Systems that are changed: [12.1], stage 12."""

import itertools
import random
import unittest

from teamtells.base.kinds import Kind, beside, is_map
from teamtells.base.made import adder_kind, cell_kind, flag_kind
from teamtells.errors import InvalidKind, InvalidNumber, InvalidOperation, InvalidSystem, TooMany
from teamtells.make.changes import pulled_back, reordered, shortened, spread, without_thread
from teamtells.make.makers import lasting_system, made_system
from teamtells.plans.plans import Plan
from teamtells.systems.checks import is_right
from teamtells.systems.programs import Program, System
from teamtells.systems.runs import Run
from tests.cases import (
    SIXTY, SIXTY_ONE, Case, shown, values, values_but, values_but_kinds, values_but_numbers, values_but_systems,
)
from tests.roads import all_roads
from tests.systems import ALONE, CELL, CLAIMS, FLAG, PAIR, SLOT, TAKE, WAITING, inputs_of, some_systems
from tests.walks import near

LOOSE = Kind({"set": ((1, 0), (2, 1), (2, 1))})
SYSTEMS = some_systems(121, 90) + [
    made_system(Plan(FLAG, 0, ("set",), ("set",))), lasting_system(Plan(SLOT, 0, ("seta",), ("setb",))),
]
RIGHT = [system for system in SYSTEMS if all(roads.is_right() for roads in all_roads(system))]


def shift(system, ahead):
    """A system that is right if this one is, in which threads read a flag so often first."""
    programs = []
    for program in system.programs:
        place = len(system.objects)
        rows = []
        for start in program.starts:
            for index in range(ahead):
                behind = len(rows) + 1 if index + 1 < ahead else start + 2 * ahead
                rows.append(("read", place, {0: behind, 1: behind}))
        for row in program.rows:
            rows.append(row if row[0] == "decide" else row[:-1] + (
                {key: other + 2 * ahead for key, other in row[-1].items()},
            ))
        programs.append(Program(tuple(rows), (0, ahead)))
    return System(system.objects + ((FLAG, 0),), tuple(programs))


def maps_to(kind, chance):
    """Some kinds with maps to this one, as pairs (other, map)."""
    found = [(kind, tuple(range(kind.size)))]
    numbers = list(range(kind.size))
    chance.shuffle(numbers)
    turned = kind.turned(tuple(numbers))
    found.append((turned, tuple(numbers.index(state) for state in range(kind.size))))
    if 2 * kind.size <= 12:
        # Two copies of each state; operations lead to any of those that stand for the same one.
        rows = {}
        for name, row in kind.operations.items():
            copies = [(2 * behind + chance.randint(0, 1), answer) for behind, answer in row for _ in (0, 1)]
            rows[name] = tuple(copies)
        found.append((Kind(rows), tuple(state // 2 for state in range(2 * kind.size))))
    return found


class WithoutThreadTest(Case):
    def test_without_each_thread(self):
        for system in SYSTEMS:
            for thread in range(len(system)):
                if len(system) == 1:
                    self.refuses(InvalidOperation, None, without_thread, system, thread)
                    continue
                less = without_thread(system, thread)
                self.same(less.objects, system.objects)
                self.same(less.programs, system.programs[:thread] + system.programs[thread + 1:])
        self.same(str(without_thread(PAIR, 0)), "system of 1 threads, 3 objects")

    def test_runs_side_by_side(self):
        chance = random.Random(122)
        for system in SYSTEMS:
            for thread in range(len(system) if len(system) > 1 else 0):
                inputs = chance.choice(inputs_of(system))
                others = [other for other in range(len(system)) if other != thread]
                run = Run(system, inputs)
                less = Run(without_thread(system, thread), tuple(inputs[other] for other in others))
                for _ in range(12):
                    place = chance.randrange(len(others))
                    if place in less.active:
                        self.same(less.go(place), run.go(others[place]))
                    self.same(less.configuration[0], run.configuration[0])
                    self.same(less.decisions, tuple(run.decisions[other] for other in others))

    def test_right_systems_stay_right(self):
        for system in RIGHT:
            for thread in range(len(system) if len(system) > 1 else 0):
                for restarts in (False, True):
                    if is_right(system, restarts=restarts):
                        self.same(is_right(without_thread(system, thread), restarts=restarts), True)

    def test_wrong_arguments(self):
        wrong = ((InvalidSystem, values_but_systems()), (InvalidNumber, values_but_numbers(0, 1)))
        self.refuses_each(without_thread, (PAIR, 0), wrong)
        self.refuses(InvalidNumber, 1, without_thread, CLAIMS[0], 1)
        self.refuses(InvalidOperation, None, without_thread, CLAIMS[0], 0)


class ReorderedTest(Case):
    def test_all_orders(self):
        for system in (PAIR, CLAIMS[2]):
            for objects in itertools.permutations(range(len(system.objects))):
                for threads in itertools.permutations(range(len(system))):
                    other = reordered(system, objects, threads)
                    self.same(other.objects, tuple(system.objects[old] for old in objects))
                    for new, old in enumerate(threads):
                        program, found = system.programs[old], other.programs[new]
                        self.same((found.starts, len(found)), (program.starts, len(program)))
                        for row, before in zip(found.rows, program.rows):
                            if before[0] == "decide":
                                self.same(row, before)
                            else:
                                self.same((row[0], objects[row[1]], *row[2:]), before)
        self.same(reordered(PAIR, (0, 1, 2), (0, 1)), PAIR)

    def test_runs_side_by_side_and_right_ones(self):
        chance = random.Random(123)
        for system in SYSTEMS:
            objects, threads = list(range(len(system.objects))), list(range(len(system)))
            chance.shuffle(objects)
            chance.shuffle(threads)
            other = reordered(system, tuple(objects), tuple(threads))
            for inputs in inputs_of(system):
                run, changed = Run(system, inputs), Run(other, tuple(inputs[old] for old in threads))
                for _ in range(10):
                    new = chance.randrange(len(threads))
                    if new in changed.active:
                        self.same(changed.go(new), run.go(threads[new]))
                    self.same(changed.configuration[0], tuple(run.configuration[0][old] for old in objects))
                    self.same(changed.configuration[1], tuple(run.configuration[1][old] for old in threads))
                    self.same(changed.decided, run.decided)
            for restarts in (False, True):
                self.same(is_right(other, restarts=restarts), is_right(system, restarts=restarts))
            back = tuple(objects.index(place) for place in range(len(objects)))
            self.same(reordered(other, back, tuple(threads.index(place) for place in range(len(threads)))), system)

    def test_without_objects(self):
        system = System((), (ALONE, ALONE))
        self.same(reordered(system, (), (1, 0)), system)
        self.refuses(InvalidOperation, None, reordered, system, (0,), (1, 0))

    def test_wrong_arguments(self):
        right = [(0, 1, 2), (0, 1), (1, 0)]
        wrong = (
            (InvalidSystem, values_but_systems()), (InvalidOperation, values_but(right[0])),
            (InvalidOperation, values_but(*right[1:])),
        )
        self.refuses_each(reordered, (PAIR, (0, 1, 2), (1, 0)), wrong)
        for value in near((0, 2, 1)):
            if not (isinstance(value, tuple) and sorted(map(repr, value)) == ["0", "1", "2"]):
                self.refuses(InvalidOperation, None, reordered, PAIR, value, (1, 0))
        for value in ((0, 1, 1), (0, 1, 3), (-1, 0, 1), (0, 1), (0, 1, 2, 2), [0, 1, 2], (0, True, 2), (0, 1, None),
                      (0, 1, SIXTY), (0, 1, SIXTY_ONE), (0, 1, 2, 3), "012", (0, 1, "2"), (0, 1, [2])):
            self.refuses(InvalidOperation, None, reordered, PAIR, value, (0, 1))
        for value in ((0, 0), (1,), (1, 0, 2), (1, 2), (False, 1), [1, 0]):
            self.refuses(InvalidOperation, None, reordered, PAIR, (0, 1, 2), value)


class PulledBackTest(Case):
    def test_rows_and_objects(self):
        other = pulled_back(PAIR, 0, LOOSE, 0, (0, 1, 1))
        self.same((other.objects, other.programs), (((LOOSE, 0),) + PAIR.objects[1:], PAIR.programs))
        wide = Kind({"puta": ((0, 0), (2, 0), (0, 0)), "putb": ((1, 0),) * 3})
        other = pulled_back(PAIR, 1, wide, 2, (0, 1, 0))
        self.same(other.objects, (PAIR.objects[0], (wide, 2), PAIR.objects[2]))
        self.same(other.programs[0].rows[3], ("read", 1, {0: 4, 1: 6, 2: 4}))
        self.same(other.programs[1].rows[5], ("read", 1, {0: 4, 1: 6, 2: 4}))
        self.same(other.programs[0].rows[5], PAIR.programs[0].rows[5])

    def test_answers_that_are_not_given(self):
        # A map that does not meet all states: what is left are the answers of the new kind.
        kind = Kind({"add": ((1, 3), (1, 4), (0, 7))})
        rows = (("do", 0, "add", {3: 0, 4: 1, 7: 2}), ("decide", 0), ("decide", 1), ("read", 0, {0: 0, 1: 1, 2: 3}))
        system = System(((kind, 1),), (Program(rows, (0, 3)),))
        part = Kind({"add": ((0, 4),)})
        other = pulled_back(system, 0, part, 0, (1,))
        self.same(other.programs[0].rows, (("do", 0, "add", {4: 1}), *rows[1:3], ("read", 0, {0: 1})))
        self.same((other.objects, other.programs[0].starts), (((part, 0),), (0, 3)))

    def test_runs_side_by_side_and_right_ones(self):
        chance = random.Random(124)
        many = 0
        for system in SYSTEMS:
            for index, (kind, start) in enumerate(system.objects):
                for new, value in maps_to(kind, chance):
                    self.assertTrue(is_map(new, kind, value))
                    state = chance.choice([state for state in range(new.size) if value[state] == start])
                    other = pulled_back(system, index, new, state, value)
                    self.same(other.objects[index], (new, state))
                    self.follow(chance, system, other, index, value)
                    for restarts in (False, True):
                        self.same(is_right(other, restarts=restarts), is_right(system, restarts=restarts))
                    many += 1
        self.assertGreater(many, 200)

    def follow(self, chance, system, other, index, value):
        inputs = chance.choice(inputs_of(system))
        run, changed = Run(system, inputs), Run(other, inputs)
        for _ in range(10):
            thread = chance.randrange(len(system))
            if thread in run.active:
                row = system.programs[thread].rows[run.configuration[1][thread]]
                told = changed.go(thread)
                self.same(value[told] if row[:2] == ("read", index) else told, run.go(thread))
            states, rows = changed.configuration
            states = states[:index] + (value[states[index]],) + states[index + 1:]
            self.same(((states, rows), changed.decided), (run.configuration, run.decided))

    def test_wrong_arguments(self):
        wrong = (
            (InvalidSystem, values_but_systems()), (InvalidNumber, values_but_numbers(0, 2)),
            (InvalidKind, values_but_kinds()), (InvalidNumber, values_but_numbers(0, 2)),
            (InvalidOperation, values_but((0, 1, 1))),
        )
        self.refuses_each(pulled_back, (PAIR, 0, LOOSE, 0, (0, 1, 1)), wrong)
        self.refuses(InvalidNumber, 0, pulled_back, System((), (ALONE,)), 0, LOOSE, 0, (0, 1, 1))
        for value in near((0, 1, 1)):
            if shown(value) != shown((0, 1, 1)):
                self.refuses(InvalidOperation, None, pulled_back, PAIR, 0, LOOSE, 0, value)
        # A map that takes the state elsewhere; a kind without a map; a map to the kind of another object.
        self.refuses(InvalidOperation, None, pulled_back, PAIR, 0, LOOSE, 1, (0, 1, 1))
        self.refuses(InvalidOperation, None, pulled_back, PAIR, 0, LOOSE, 2, (0, 1, 1))
        self.refuses(InvalidOperation, None, pulled_back, PAIR, 1, LOOSE, 0, (0, 1, 1))
        self.refuses(InvalidOperation, None, pulled_back, PAIR, 0, FLAG, 0, (1, 0))
        self.refuses(InvalidOperation, None, pulled_back, PAIR, 0, beside(FLAG, CELL), 0, (0, 0, 1, 1))
        self.refuses(InvalidNumber, 3, pulled_back, PAIR, 0, LOOSE, 3, (0, 1, 1))
        self.refuses(InvalidNumber, 3, pulled_back, PAIR, 3, None, 9, None)


class ShortenedTest(Case):
    def test_rows_that_are_left_out(self):
        rows = (
            ("decide", 0), ("read", 0, {0: 3, 1: 4}), ("decide", 1), ("read", 0, {0: 0, 1: 2}),
            ("read", 0, {0: 2, 1: 1}),
        )
        system = System(((CELL, 0),), (Program(rows, (1, 3)),))
        # From both inputs the thread comes to the rows 1, 3 and 0 only.
        short = shortened(system)
        self.same(short.programs[0].rows, (("decide", 0), ("read", 0, {0: 2, 1: 0}), ("read", 0, {0: 0, 1: 0})))
        self.same((short.programs[0].starts, short.objects), ((1, 2), system.objects))
        self.same((shortened(PAIR), shortened(short)), (PAIR, short))

    def test_restarts_do_not_count(self):
        rows = (("do", 0, "set", {0: 1, 1: 2}), ("decide", 0), ("decide", 1))
        system = System(((FLAG, 0),), (Program(rows, (0, 0)),))
        self.same(shortened(system).programs[0].rows, (("do", 0, "set", {0: 1, 1: 0}), ("decide", 0)))

    def test_each_thread_by_itself(self):
        for system in SYSTEMS:
            short = shortened(system)
            met = [set() for _ in system.programs]
            for roads in all_roads(system):
                for moment in roads.steps:
                    for thread, row in enumerate(moment[1]):
                        met[thread].add(row)
            self.same(short.objects, system.objects)
            for thread, program in enumerate(system.programs):
                self.same(short.programs[thread], by_words(program, sorted(met[thread])))

    def test_runs_side_by_side_and_right_ones(self):
        chance = random.Random(125)
        for system in SYSTEMS:
            short = shortened(system)
            self.same(is_right(short), is_right(system))
            inputs = chance.choice(inputs_of(system))
            run, other = Run(system, inputs), Run(short, inputs)
            for _ in range(12):
                thread = chance.randrange(len(system))
                if thread in run.active:
                    self.same(other.go(thread), run.go(thread))
                self.same((other.configuration[0], other.decided), (run.configuration[0], run.decided))
                self.same(other.decisions, run.decisions)

    def test_errors(self):
        self.refuses_each(shortened, (PAIR,), ((InvalidSystem, values_but_systems()),))
        # 141 * 142 moments with all inputs; or with the inputs (1, 1) only; and 125 * 160 moments.
        self.refuses(TooMany, 20000, shortened, reads(140, 141))
        program = Program((*reads(150).programs[0].rows, ("decide", 1)), (151, 0))
        self.refuses(TooMany, 20000, shortened, System(((FLAG, 0),), (program, program)))
        self.same(shortened(reads(124, 159)), reads(124, 159))


def by_words(program, kept):
    """The program with just these rows, by the words of the document."""
    rows = []
    for index in kept:
        row = program.rows[index]
        if row[0] != "decide":
            moves = {key: kept.index(behind) if behind in kept else 0 for key, behind in row[-1].items()}
            row = row[:-1] + (moves,)
        rows.append(row)
    return Program(tuple(rows), tuple(kept.index(start) for start in program.starts))


def reads(*many):
    """A system whose threads do so many reads."""
    programs = [
        Program(tuple(("read", 0, {0: row + 1, 1: row + 1}) for row in range(one)) + (("decide", 0),), (0, 0))
        for one in many
    ]
    return System(((FLAG, 0),), tuple(programs))


class SpreadTest(Case):
    def test_rows(self):
        other = spread(System(PAIR.objects, (TAKE,)))
        rows = other.programs[0].rows
        self.same((other.rows, rows[7:], other.programs[0].starts), (14, TAKE.rows, (0, 1)))
        self.same(rows[:4], (("do", 1, "puta", {0: 9}), ("do", 1, "putb", {0: 9}), ("do", 0, "set", {0: 10, 1: 12}),
                             ("read", 1, {0: 11, 1: 13})))
        self.same(rows[4:7], (("decide", 0), ("read", 2, {0: 11, 1: 13}), ("decide", 1)))
        self.same((spread(PAIR).rows, spread(PAIR).objects), (28, PAIR.objects))

    def test_runs_side_by_side_and_right_ones(self):
        chance = random.Random(126)
        for system in SYSTEMS:
            other = spread(system)
            for restarts in (False, True):
                self.same(is_right(other, restarts=restarts), is_right(system, restarts=restarts))
            inputs = chance.choice(inputs_of(system))
            run, changed = Run(system, inputs), Run(other, inputs)
            steps = [0] * len(system)
            for _ in range(14):
                thread = chance.randrange(len(system))
                if thread in run.active:
                    self.same(changed.go(thread), run.go(thread))
                    steps[thread] += 1
                self.same((changed.configuration[0], changed.decided), (run.configuration[0], run.decided))
                self.same(changed.configuration[1], tuple(
                    row + len(program) * (many % 2)
                    for row, program, many in zip(run.configuration[1], system.programs, steps)
                ))

    def test_160_rows_and_more(self):
        for many, good in ((79, True), (80, False), (81, False), (159, False)):
            for system in (reads(many), reads(many, 3), reads(3, many)):
                if good:
                    self.same([len(program) for program in spread(system).programs],
                              [2 * len(program) for program in system.programs])
                else:
                    self.refuses(TooMany, 160, spread, system)

    def test_wrong_arguments(self):
        self.refuses_each(spread, (PAIR,), ((InvalidSystem, values_but_systems()),))


class OppositeTest(Case):
    def test_right_both_ways(self):
        for system in SYSTEMS:
            for restarts in (False, True):
                self.same(is_right(system.opposite(), restarts=restarts), is_right(system, restarts=restarts))


class RightTest(Case):
    def test_there_are_right_ones_and_others(self):
        self.assertGreater(len(RIGHT), 10)
        self.assertGreater(len([system for system in RIGHT if is_right(system, restarts=True)]), 3)
        self.assertGreater(len(SYSTEMS) - len(RIGHT), 40)

    def test_changes_one_behind_the_other(self):
        for system in (PAIR, CLAIMS[1], made_system(Plan(FLAG, 0, ("set",), ("set",)))):
            other = spread(shift(system, 3))
            other = reordered(other, tuple(range(len(other.objects)))[::-1], (1, 0)).opposite()
            place = len(other.objects) - 1
            kind, start = other.objects[place]
            other = shortened(pulled_back(other, place, kind, start, tuple(range(kind.size))))
            self.same((is_right(other), is_right(without_thread(other, 0))), (True, True))
            self.assertLess(other.rows, spread(shift(system, 3)).rows)


class StateTest(Case):
    def test_systems_stay_as_they_are(self):
        system = System(PAIR.objects, PAIR.programs)
        before = shown(system)
        made = [
            without_thread(system, 0), reordered(system, (2, 0, 1), (1, 0)), shortened(system), spread(system),
            pulled_back(system, 0, LOOSE, 0, (0, 1, 1)), pulled_back(system, 1, cell_kind(2), 0, (0, 1)),
        ]
        kept = [shown(other) for other in made]
        for other in made:
            for program in other.programs:
                for row in program.rows:
                    if row[0] != "decide":
                        row[-1].clear()
            other.objects[0][0].operations.clear()
        self.assertEqual([shown(other) for other in made], kept)
        self.assertEqual(shown(system), before)

    def test_refused_calls_change_nothing(self):
        system = System(PAIR.objects, PAIR.programs)
        before = shown(system)
        calls = [
            (InvalidNumber, 2, without_thread, (system, 2)),
            (InvalidOperation, None, reordered, (system, (0,), (0, 1))),
            (InvalidOperation, None, reordered, (system, (0, 1, 2), (0,))),
            (InvalidOperation, None, pulled_back, (system, 0, LOOSE, 0, (0, 1, 2))),
            (InvalidNumber, 7, pulled_back, (system, 7, LOOSE, 0, (0, 1, 1))),
        ]
        for error, kept, call, arguments in calls:
            self.refuses(error, kept, call, *arguments)
            self.assertEqual(shown(system), before)

    def test_equal_calls_return_equal_results(self):
        system = System(((flag_kind(), 0), (CELL, 0), (CELL, 0)), PAIR.programs)
        self.same(reordered(PAIR, (1, 2, 0), (1, 0)), reordered(system, (1, 2, 0), (1, 0)))
        self.same(spread(PAIR), spread(system))
        self.same(len(System(((adder_kind(3), 0), (CELL, 0)), (WAITING.on({0: 1}),))), 1)
        for value in values():
            self.same(spread(PAIR) == value, False)


if __name__ == "__main__":
    unittest.main()
