"""Right systems: [0.15], [9.1], [9.2], stage 9."""

import itertools
import unittest

from teamtells.base.made import adder_kind
from teamtells.errors import InvalidInputs, InvalidOperation, InvalidSystem, TooMany
from teamtells.systems.checks import (
    MAX_MOMENTS, found_fault, is_fault, is_right, is_right_paper, longest, reach_of, reached_moments, right_paper,
)
from teamtells.systems.programs import Program, System
from tests.cases import SIXTY, SIXTY_ONE, Case, shown, values, values_but, values_but_systems
from tests.systems import (
    ALONE, CELL, CLAIMS, COUNTING, FLAG, PAIR, STUBBORN, WAITING, Explored, first_moment, inputs_of, is_fault_by_walk,
    is_paper_by_walk, is_right_by_walk, some_systems,
)
from tests.walks import near

SYSTEMS = some_systems(51, 150)
RIGHT = [system for system in SYSTEMS if is_right_by_walk(system, False)]
TWELVE = adder_kind(12)
UNLIKE = System((), (ALONE, ALONE))
SPIN = System(((CELL, 0),), (WAITING,))
ROUND = System(((CELL, 0),), (WAITING, WAITING))


def adding(many, behind=0):
    """A program that adds so many times, and then decides for its input."""
    rows = [("do", 0, "add", dict.fromkeys(range(12), index + 1)) for index in range(many)]
    other = [("do", 0, "add", dict.fromkeys(range(12), many + 2 + index)) for index in range(many)]
    return Program((*rows, ("decide", behind), *other, ("decide", 1)), (0, many + 1))


# Counters one behind the other: a thread does 1884 steps until all are where they were.
COUNTERS = ((TWELVE, 0),) * 3
LONG = Program(
    (
        ("do", 0, "add", {answer: 0 if answer < 11 else 1 for answer in range(12)}),
        ("do", 1, "add", {answer: 0 if answer < 11 else 2 for answer in range(12)}),
        ("do", 2, "add", dict.fromkeys(range(12), 0)),
    ),
    (0, 0),
)
# The same, but it decides when the last one goes round.
COUNTDOWN = Program(
    (*LONG.rows[:2], ("do", 2, "add", {answer: 0 if answer < 11 else 3 for answer in range(12)}), ("decide", 0)),
    (0, 0),
)
WAKER = Program((("do", 3, "putb", {0: 1}), ("decide", 0)), (0, 0))


def counters(many):
    """The counters, in states from which so many steps are left until the last one goes round."""
    for states in itertools.product(range(12), repeat=3):
        if 12 - states[0] + 1 + (11 - states[1]) * 13 + 1 + (11 - states[2]) * 157 == many:
            return tuple((TWELVE, state) for state in states)
    raise AssertionError(many)


def shifted(program, places, ahead):
    """The rows of a program for other objects, behind so many other rows."""
    return tuple(
        (*row[:1], row[1] + places, row[2], {key: other + ahead for key, other in row[3].items()})
        for row in program.rows
    )


def spinning(ahead):
    """A program that reads the last object so often, and then for ever."""
    rows = tuple(("read", 3, {0: row + 1, 1: row + 1}) for row in range(ahead))
    return Program(rows + (("read", 3, {0: ahead, 1: ahead}),), (0, 0))


def counter(*programs):
    return System(((TWELVE, 0), (TWELVE, 0)), programs)


class ReachedTest(Case):
    def test_all_moments(self):
        for system in SYSTEMS:
            for inputs in inputs_of(system):
                for restarts in (False, True):
                    found = tuple(sorted(Explored(system, inputs, restarts).steps))
                    self.same(reached_moments(system, inputs, restarts=restarts), found)

    def test_without_restarts_if_not_told(self):
        self.same(reached_moments(PAIR, (0, 1)), reached_moments(PAIR, (0, 1), restarts=False))
        self.same(reached_moments(PAIR, (0, 1)) == reached_moments(PAIR, (0, 1), restarts=True), False)
        self.same(reached_moments(System((), (ALONE,)), (1,)), (((), (1,), (1,)),))
        self.same(reached_moments(UNLIKE, (1, 0)), (((), (1, 0), (0, 1)),))

    def test_four_threads(self):
        system = System(CLAIMS[0].objects, CLAIMS[0].programs * 4)
        for restarts in (False, True):
            found = Explored(system, (0, 1, 1, 0), restarts)
            self.same(reached_moments(system, (0, 1, 1, 0), restarts=restarts), tuple(sorted(found.steps)))
            self.same((is_right(system, restarts=restarts), found.right), (True, True))
        self.same(longest(system), 4)

    def test_wrong_arguments(self):
        wrong = ((InvalidSystem, values_but_systems()), (InvalidInputs, values_but((0, 1), (1, 0), (0, 0))))
        self.refuses_each(reached_moments, (PAIR, (0, 1)), wrong)
        for value in values():
            if not isinstance(value, bool):
                self.refuses(InvalidOperation, None, reached_moments, PAIR, (0, 1), restarts=value)
                self.refuses(InvalidInputs, None, reached_moments, PAIR, (0, 2), restarts=value)
                self.refuses(InvalidSystem, None, reached_moments, None, (0, 1), restarts=value)


class RightTest(Case):
    def test_which_systems_are_right(self):
        sorts = set()
        for system in SYSTEMS:
            for restarts in (False, True):
                found = [Explored(system, inputs, restarts) for inputs in inputs_of(system)]
                right = all(one.right for one in found)
                sorts.add((any(one.unlike for one in found), any(one.strange for one in found),
                           any(one.rounds for one in found), restarts))
                self.same(is_right(system, restarts=restarts), right)
        # Right systems are there, and such with each sort of fault.
        for index, restarts in itertools.product(range(3), (False, True)):
            self.assertTrue(any(sort[index] and sort[3] == restarts for sort in sorts))
        self.assertIn((False, False, False, True), sorts)
        self.assertGreater(len(RIGHT), 8)

    def test_known_ones(self):
        self.same([is_right(system) for system in (PAIR, *CLAIMS, UNLIKE, SPIN, ROUND)], [True] * 4 + [False] * 3)
        self.same([is_right(system, restarts=True) for system in (PAIR, *CLAIMS)], [False, True, True, True])
        self.same(is_right(System((), (ALONE,)), restarts=True), True)
        self.same([is_right(System((), (STUBBORN,))), is_right(System(((CELL, 1),), (WAITING,)))], [False, False])

    def test_right_with_restarts_is_right(self):
        for system in SYSTEMS:
            self.same(is_right(system) or not is_right(system, restarts=True), True)

    def test_faults_that_are_found(self):
        words = set()
        for system in SYSTEMS:
            for restarts in (False, True):
                fault = found_fault(system, restarts=restarts)
                self.same(fault is None, is_right_by_walk(system, restarts))
                if fault is not None:
                    words.add((fault[0], restarts))
                    self.same(is_fault_by_walk(system, fault, restarts), True)
                    self.same(is_fault(system, fault, restarts=restarts), True)
                    self.assertLess(max(len(part) for part in fault[2:]), 100)
        self.same(sorted(words), [(word, told) for word in ("round", "strange", "unlike") for told in (False, True)])

    def short(self, system, word):
        """A fault of this sort is found that has not too many parts."""
        fault = found_fault(system)
        self.same((fault[0], is_fault(system, fault)), (word, True))
        self.assertLessEqual(max(len(part) for part in fault[2:]), 900)
        return fault

    def test_long_rounds_beside_short_ones(self):
        # One thread has long rounds alone, the other one a short one behind some steps.
        for ahead in (0, 1, 5):
            for programs in ((LONG, spinning(ahead)), (spinning(ahead), LONG)):
                self.short(System(COUNTERS + ((CELL, 0),), programs), "round")

    def test_many_steps_before_rounds(self):
        # The first thread alone comes to no round for many steps, the second one soon.
        for ahead in (0, 1, 5, 12):
            system = System(counters(1000) + ((CELL, 0),), (COUNTDOWN, spinning(ahead)))
            self.same(len(self.short(system, "round")[2]), ahead)

    def test_rounds_behind_rounds(self):
        # A long round is met first, and left for a short one behind it; or the short one is met first.
        rows = [(*row[:3], dict(row[3])) for row in LONG.rows]
        rows[2][3][0] = 3
        there = Program((*rows, ("read", 0, dict.fromkeys(range(12), 3))), (0, 0))
        self.same(len(self.short(System(counters(300), (there,)), "round")[3]), 1)
        here = Program((("read", 3, {0: 0, 1: 1}), *shifted(LONG, 0, 1)), (0, 0))
        self.same(len(self.short(System(COUNTERS + ((CELL, 0),), (here, WAKER)), "round")[3]), 1)

    def test_a_moment_between_rounds(self):
        # Without the other thread the first one comes to a round late, and then by row 7 to the other round; with it,
        # it comes to row 7 at once.
        moves = ({0: 1, 1: 7}, {0: 2, 1: 2}, {0: 3, 1: 3}, {0: 4, 1: 4}, {0: 5, 1: 7}, {0: 6, 1: 4}, {0: 4, 1: 4},
                 {0: 8, 1: 8}, {0: 9, 1: 9}, {0: 9, 1: 9})
        rows = tuple(("read", 0, move) for move in moves)
        system = System(((CELL, 0),), (Program(rows, (0, 0)), WAKER.on({3: 0})))
        fault = reach_of(system, (0, 0), False).fault()
        self.same((fault[0], is_fault(system, fault)), ("round", True))

    def test_short_rounds_beside_decisions_behind_many_deeds(self):
        for many in (901, 1000):
            system = System(counters(many) + ((CELL, 0),), (COUNTDOWN, spinning(2)))
            fault = reach_of(system, (1, 1), False).fault()
            self.same((fault[0], len(fault[2]), len(fault[3]), is_fault(system, fault)), ("round", 2, 1, True))

    def test_a_long_round_alone(self):
        system = System(COUNTERS, (LONG,))
        self.same(len(reached_moments(system, (0,))), 1884)
        self.same((is_right(system), is_fault(system, ("round", (0,), (), (0,) * 1884))), (False, True))
        self.same(is_fault(system, found_fault(system)), True)

    def test_wrong_decisions_before_long_rounds(self):
        system = System(COUNTERS, (LONG, STUBBORN))
        self.same(len(self.short(system, "strange")[2]), 0)

    def test_wrong_decisions_behind_many_deeds(self):
        # The second thread decides at once for its input, or comes to a long round when the first one is ready.
        look = (("read", 6, {0: 2, 1: 4}), ("read", 6, {0: 3, 1: 4}), ("decide", 0), ("decide", 1),
            *shifted(LONG, 3, 4))
        for many in (100, 899, 900):
            objects = counters(many - 1) + COUNTERS + ((CELL, 0),)
            rows = (*COUNTDOWN.rows[:3], ("do", 6, "putb", {0: 4}), ("decide", 0))
            system = System(objects, (Program(rows, (0, 0)), Program(look, (0, 1))))
            self.same(self.short(system, "strange"), ("strange", (1, 1), (0,) * many))

    def test_wrong_arguments(self):
        for call in (is_right, found_fault, right_paper, longest):
            self.refuses_each(call, (PAIR,), ((InvalidSystem, values_but_systems()),))
        for call in (is_fault, is_right_paper):
            self.refuses_each(call, (PAIR, None), ((InvalidSystem, values_but_systems()), None))
        for value in values():
            if not isinstance(value, bool):
                for call in (is_right, found_fault, right_paper):
                    self.refuses(InvalidOperation, None, call, PAIR, restarts=value)
                    self.refuses(InvalidSystem, None, call, FLAG, restarts=value)
                for call in (is_fault, is_right_paper):
                    self.refuses(InvalidOperation, None, call, PAIR, None, restarts=value)
                    self.refuses(InvalidSystem, None, call, FLAG, None, restarts=value)
        with self.assertRaises(TypeError):
            is_right(PAIR, True)


class LimitTest(Case):
    def test_more_than_20000_moments(self):
        self.same(MAX_MOMENTS, 20000)
        # Two threads with so many steps each reach (140 + 1) * (141 + 1) = 20022 moments.
        many = System(((FLAG, 0),), (reading(140), reading(141)))
        self.refuses(TooMany, 20000, reached_moments, many, (0, 0))
        for call in (is_right, found_fault, right_paper, longest):
            self.refuses(TooMany, 20000, call, many)
        few = System(((FLAG, 0),), (reading(140), reading(140)))
        self.same(len(reached_moments(few, (0, 0))), 19881)
        self.same(is_right(few), False)

    def test_just_20000_moments(self):
        # 125 rows and 160 rows: 125 * 160 moments.
        just = System(((FLAG, 0),), (reading(124), reading(159)))
        self.same(len(reached_moments(just, (1, 0))), 20000)
        self.same((is_right(just), found_fault(just)[0]), (False, "strange"))
        self.refuses(InvalidOperation, None, longest, just)
        more = System(((FLAG, 0),), (reading(126), reading(158)))
        self.refuses(TooMany, 20000, reached_moments, more, (1, 0))

    def test_with_any_inputs(self):
        # With the inputs (0, 0) a fault is found at once; with (1, 1) there are too many moments.
        long = reading(150).rows
        program = Program((*long, ("decide", 1)), (151, 0))
        system = System(((FLAG, 0),), (program, program))
        self.same(len(reached_moments(system, (0, 0))), 1)
        for call in (is_right, found_fault, right_paper, longest):
            self.refuses(TooMany, 20000, call, system)
        self.refuses(TooMany, 20000, reached_moments, system, (1, 1))
        self.refuses(InvalidOperation, None, is_right, system, restarts=None)

    def test_only_with_restarts(self):
        system = counter(adding(40), adding(40))
        self.same(len(reached_moments(system, (0, 1))), 41 * 41)
        self.refuses(TooMany, 20000, reached_moments, system, (0, 1), restarts=True)
        self.refuses(TooMany, 20000, is_right, system, restarts=True)
        self.refuses(TooMany, 20000, found_fault, system, restarts=True)
        self.refuses(TooMany, 20000, right_paper, system, restarts=True)
        self.same((is_right(system), found_fault(system)[0]), (False, "unlike"))

    def test_the_judges_have_no_limit(self):
        system = counter(adding(79), adding(79), adding(79), adding(79))
        self.refuses(TooMany, 20000, is_right, system)
        self.same(is_fault(system, ("unlike", (0, 1, 0, 0), (0,) * 79 + (1,) * 79)), True)
        self.same(is_fault(system, ("unlike", (0, 1, 0, 0), (0,) * 79 + (1,) * 78)), False)
        self.same(is_right_paper(system, {}), False)
        one = System(((FLAG, 0),), (reading(3), reading(3)))
        paper = {inputs: {first_moment(one, inputs): 0} for inputs in inputs_of(one)}
        self.same(is_right_paper(one, paper), False)

    def test_papers_of_more_than_20000_keys(self):
        system = System((), (ALONE,))
        many = {inputs: {((), (inputs[0],), inputs): number for number in range(3)} for inputs in ((0,), (1,))}
        self.same(is_right_paper(system, many), True)
        cells = System(((CELL, 0),) * 13, (ALONE, ALONE.with_row(0, ("decide", 0))))
        part = {(states, rows, ()): 0 for states in itertools.product((0, 1), repeat=13) for rows in ((0, 0),)}
        self.same(is_right_paper(cells, {inputs: part for inputs in inputs_of(cells)}), False)
        quiet = System(((CELL, 0),) * 13, (ALONE,))
        paper = {
            (number,): {(states, (number,), (number,)): 7 for states in itertools.product((0, 1), repeat=13)}
            for number in (0, 1)
        }
        self.same(is_right_paper(quiet, paper), True)


def reading(many):
    """A program of so many reads of a flag, and a decision for 0."""
    return Program(tuple(("read", 0, {0: index + 1, 1: index + 1}) for index in range(many)) + (("decide", 0),), (0, 0))


class LongestTest(Case):
    def test_greatest_number_of_steps(self):
        for system in SYSTEMS:
            if is_right_by_walk(system, False):
                heights = [Explored(system, inputs, False).height() for inputs in inputs_of(system)]
                self.same(longest(system), max(heights))
            else:
                self.refuses(InvalidOperation, None, longest, system)
        self.same([longest(system) for system in CLAIMS], [1, 2, 3])
        self.same(longest(System((), (ALONE,))), 0)
        self.same(longest(counter(adding(150 // 2))), 75)


class FaultTest(Case):
    def test_all_short_values(self):
        for system in (PAIR, CLAIMS[1], UNLIKE, ROUND, SPIN, System((), (STUBBORN, STUBBORN))):
            threads = range(-1, len(system) + 1)
            deeds = [*threads, ("restart", 0), ("restart", len(system))]
            for inputs in inputs_of(system):
                for many in range(3):
                    for done in itertools.product(deeds, repeat=many):
                        for value in (("unlike", inputs, done), ("strange", inputs, done),
                                      ("round", inputs, done, (0,)), ("round", inputs, done, (len(system) - 1, 0)),
                                      ("round", inputs, done, ())):
                            for restarts in (False, True):
                                good = is_fault_by_walk(system, value, restarts)
                                self.same(is_fault(system, value, restarts=restarts), good)

    def test_values_near_faults(self):
        fault = ("strange", (1, 1), (0, 0, ("restart", 0), 0, 0, 0))
        self.same((is_fault(PAIR, fault, restarts=True), is_fault(PAIR, fault)), (True, False))
        cases = (
            (PAIR, fault, True), (UNLIKE, ("unlike", (0, 1), ()), False),
            (ROUND, ("round", (0, 1), (0,), (1, 0)), False),
            (ROUND, ("round", (0, 1), (("restart", 1), 0), (1,)), True),
        )
        for system, fault, restarts in cases:
            self.same(is_fault(system, fault, restarts=restarts), True)
            for value in near(fault):
                good = is_form(system, value) and is_fault_by_walk(system, value, restarts)
                self.same(is_fault(system, value, restarts=restarts), good)

    def test_edges_of_faults(self):
        right = ("round", (0, 1), (0,), (1, 0))
        self.same(is_fault(ROUND, right), True)
        wrong = (
            list(right), ("round", [0, 1], (0,), (1, 0)), ("round", (0, 1), [0], (1, 0)),
            ("round", (0, 1), (0,), [1, 0]),
            ("round", (0, True), (0,), (1, 0)), ("round", (0, 1), (False,), (1, 0)), ("round", (0, 1), (0,), (True, 0)),
            ("round", (0, 1), (0,), ()), ("round", (0, 1), (0,)), ("Round", (0, 1), (0,), (1, 0)),
            ("round", (0, 1, 1), (0,), (1, 0)), ("round", (0,), (0,), (1, 0)), ("round", (0, 1), (2,), (1, 0)),
            ("round", (0, 1), (0,), (2,)), ("round", (0, 1), (0,), (1, 0), ()), ("unlike", (0, 1), (0,), (1, 0)),
            ("round", (0, 1), (("restart", 0),), (1, 0)), ("round", (0, 1), (0,), (("restart", 0),)), None, (), "round",
            (*right, (), ()), ("round", (0, 1), (0,), (1, 0), (1, 0)),
        )
        for value in wrong:
            self.same(is_fault(ROUND, value), False)
        for value in (("unlike", (0, 1), (), ()), ("unlike", (0, 1), (), (), ()), ("unlike", (0, 1)), ("unlike",)):
            self.same(is_fault(UNLIKE, value), False)
        self.same([is_fault(ROUND, wrong[16], restarts=True), is_fault(ROUND, wrong[17], restarts=True)], [True, False])
        self.same(is_fault(ROUND, ("round", (0, 1), (("restart", True),), (1,)), restarts=True), False)
        self.same(is_fault(UNLIKE, ("unlike", (0, 1), ())), True)
        self.same(is_fault(UNLIKE, ("unlike", (0, 0), ())), False)
        self.same(is_fault(UNLIKE, ("strange", (0, 1), ())), False)
        self.same(is_fault(UNLIKE, ("round", (0, 1), (), ())), False)

    def test_how_many_deeds_and_threads(self):
        for many, good in ((0, True), (1, True), (2000, True), (2001, False)):
            self.same(is_fault(SPIN, ("round", (0,), (0,) * many, (0,))), good)
            self.same(is_fault(SPIN, ("round", (0,), (), (0,) * many)), good and many > 0)
            restarts = (("restart", 0),) * many
            self.same(is_fault(UNLIKE, ("unlike", (1, 0), restarts), restarts=True), good)
            self.same(is_fault(UNLIKE, ("strange", (1, 0), restarts), restarts=True), False)
            self.same(is_fault(System((), (STUBBORN,)), ("strange", (1,), restarts), restarts=True), good)
        self.same(is_fault(SPIN, ("round", (0,), (0,) * 2000, (0,) * 2000)), True)

    def test_every_value_is_judged(self):
        for value in values():
            for restarts in (False, True):
                self.same(is_fault(UNLIKE, value, restarts=restarts), False)
                self.same(is_fault(UNLIKE, ("unlike", (0, 1), value), restarts=restarts), shown(value) == "tuple([])")
                self.same(is_fault(UNLIKE, ("unlike", value, ()), restarts=restarts),
                          shown(value) in (shown((0, 1)), shown((1, 0))))
                self.same(is_fault(UNLIKE, (value, (0, 1), ()), restarts=restarts), False)
                self.same(is_fault(SPIN, ("round", (0,), (), (value,)), restarts=restarts), shown(value) == "0")
                self.same(is_fault(SPIN, ("round", (0,), (value,), (0,)), restarts=restarts), shown(value) == "0")
                self.same(is_fault(SPIN, ("round", (0,), (("restart", value),), (0,)), restarts=restarts),
                          restarts and shown(value) == "0")


def is_form(system, value):
    """Whether a value has the form of a fault."""
    if not isinstance(value, tuple) or len(value) not in (3, 4):
        return False
    if not all(isinstance(part, tuple) for part in value[1:]):
        return False
    if shown(value[1]) not in [shown(inputs) for inputs in inputs_of(system)]:
        return False
    if value[0] not in (("unlike", "strange") if len(value) == 3 else ("round",)):
        return False
    threads = [*value[2], *(value[3] if len(value) == 4 else ())]
    for place, deed in enumerate(value[2]):
        if isinstance(deed, tuple) and len(deed) == 2 and deed[0] == "restart":
            threads[place] = deed[1]
    return all(thread.__class__ is int for thread in threads)


class PaperTest(Case):
    def test_papers_that_are_made(self):
        for system in SYSTEMS:
            for restarts in (False, True):
                if is_right_by_walk(system, restarts):
                    paper = right_paper(system, restarts=restarts)
                    self.same(is_right_paper(system, paper, restarts=restarts), True)
                    self.same(is_paper_by_walk(system, paper, restarts), True)
                    self.assertEqual(list(paper), sorted(paper))
                    for part in paper.values():
                        self.assertEqual(list(part), sorted(part))
                else:
                    self.refuses(InvalidOperation, None, right_paper, system, restarts=restarts)

    def test_papers_without_and_with_restarts(self):
        paper = right_paper(PAIR)
        self.same((is_right_paper(PAIR, paper), is_right_paper(PAIR, paper, restarts=True)), (True, False))
        paper = right_paper(CLAIMS[1], restarts=True)
        self.same([is_right_paper(CLAIMS[1], paper, restarts=restarts) for restarts in (False, True)], [True, True])
        self.same(is_right_paper(CLAIMS[1], right_paper(CLAIMS[1]), restarts=True), False)

    def test_keys_that_are_left_out(self):
        for system in RIGHT[:10] + [PAIR]:
            paper = right_paper(system)
            for inputs in paper:
                less = {other: part for other, part in paper.items() if other != inputs}
                self.same(is_right_paper(system, less), False)
                for moment in paper[inputs]:
                    part = {other: number for other, number in paper[inputs].items() if other != moment}
                    self.judged(system, {**paper, inputs: part})

    def judged(self, system, value):
        for restarts in (False, True):
            self.same(is_right_paper(system, value, restarts=restarts), is_paper_by_walk(system, value, restarts))

    def test_numbers_that_are_changed(self):
        for system in (PAIR, CLAIMS[1], CLAIMS[0]):
            paper = right_paper(system, restarts=is_right(system, restarts=True))
            for inputs, part in paper.items():
                for moment in list(part)[::3]:
                    for number in (-1, 0, part[moment] - 1, part[moment] + 1, 50, SIXTY):
                        self.judged(system, {**paper, inputs: {**part, moment: number}})
                    for value in (None, True, False, "1", (0,), SIXTY_ONE, -SIXTY_ONE, [], FLAG):
                        wrong = {**paper, inputs: {**part, moment: value}}
                        self.same(is_right_paper(system, wrong), False)
            raised = {
                inputs: {moment: 7 * number + 3 for moment, number in part.items()} for inputs, part in paper.items()
            }
            self.same(is_right_paper(system, raised), True)

    def test_greatest_numbers(self):
        system = CLAIMS[0]
        for number, good in ((0, False), (1, True), (SIXTY, True), (SIXTY_ONE, False)):
            paper = {
                (one,): {((0,), (one,), ()): number, ((one + 1,), (one + 2,), (one,)): 0} for one in (0, 1)
            }
            self.same(is_right_paper(system, paper), good)

    def test_keys_that_are_not_reached(self):
        system = CLAIMS[1]
        paper = right_paper(system)
        for moment, number, good in (
            (((1,), (2, 2), (0,)), 0, True), (((0,), (2, 2), (0,)), 9, True), (((0,), (2, 2), ()), 9, False),
            (((0,), (2, 3), (0,)), 9, False), (((0,), (2, 3), (0, 1)), 9, False), (((2,), (3, 3), (1,)), 9, False),
            (((2,), (0, 0), (0,)), 9, False), (((1,), (1, 2), (0,)), 9, True), (((1,), (1, 2), (0,)), 0, False),
            (((3,), (2, 2), (0,)), 9, False), (((0,), (2, 4), (0,)), 9, False), (((0,), (2, 2), (2,)), 9, False),
            (((0,), (2, 2), (0, 0)), 9, False), (((0,), (2, 2)), 9, False), (((0,), (2, 2), (0,), ()), 9, False),
            ("moment", 9, False), (((True,), (2, 2), (0,)), 0, False), (((0,), (2, 2), (False,)), 9, False),
            (None, 9, False), (7, 9, False), (((0,), (2, 2), 0), 9, False), (((0,), (2, 2), None), 9, False),
        ):
            value = {**paper, (0, 0): {**without_equal(paper[0, 0], moment), moment: number}}
            self.same(is_right_paper(system, value), good)

    def test_wrong_inputs_as_keys(self):
        paper = right_paper(PAIR)
        for key in ((0, 2), (0,), (0, 0, 0), None, "00", 0, ()):
            self.same(is_right_paper(PAIR, {**paper, key: paper[0, 0]}), False)
            less = {inputs: part for inputs, part in paper.items() if inputs != (0, 0)}
            self.same(is_right_paper(PAIR, {**less, key: paper[0, 0]}), False)
        less = {inputs: part for inputs, part in paper.items() if inputs != (1, 0)}
        self.same(is_right_paper(PAIR, {**less, (True, 0): paper[1, 0]}), False)
        self.same(is_right_paper(PAIR, {**less, (1, 0): paper[1, 0]}), True)

    def test_every_value_is_judged(self):
        paper = right_paper(CLAIMS[0])
        for value in values():
            for restarts in (False, True):
                self.same(is_right_paper(PAIR, value, restarts=restarts), False)
                self.same(is_right_paper(CLAIMS[0], {**paper, (0,): value}, restarts=restarts), False)
        for value in (list(paper.items()), tuple(paper.items()), [paper], (paper,), {(0,): paper, (1,): paper}):
            self.same(is_right_paper(CLAIMS[0], value), False)

    def test_systems_that_are_not_right_have_no_paper(self):
        for system in (UNLIKE, ROUND, System((), (STUBBORN,))):
            for number in (0, 1, 5):
                value = {
                    inputs: dict.fromkeys(reached_moments(system, inputs), number) for inputs in inputs_of(system)
                }
                self.same(is_right_paper(system, value), False)

    def test_returned_papers_can_be_changed(self):
        paper = right_paper(PAIR)
        before = shown(paper)
        paper[0, 0].clear()
        paper.pop((1, 1))
        self.assertEqual(shown(right_paper(PAIR)), before)
        self.same([type(part) for part in right_paper(PAIR).values()], [dict] * 4)


def without_equal(part, moment):
    """The part without a key that is equal, as True is to 1, so that the other one becomes the key."""
    return {key: number for key, number in part.items() if key != moment}


class StateTest(Case):
    def test_systems_stay_as_they_are(self):
        system = System(PAIR.objects, PAIR.programs)
        before = shown(system)
        reached_moments(system, (0, 1), restarts=True)
        found_fault(system, restarts=True)
        right_paper(system)
        longest(system)
        is_fault(system, ("strange", (0, 1), (0, 1)))
        self.assertEqual(shown(system), before)
        self.same(found_fault(system, restarts=True), found_fault(System(PAIR.objects, PAIR.programs), restarts=True))
        self.same(len(COUNTING), 3)


if __name__ == "__main__":
    unittest.main()
