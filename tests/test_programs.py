"""Programs and systems: [0.13], stage 7."""

import unittest

from teamtells.base.made import adder_kind, cell_kind, fading_kind, flag_kind, slot_kind, swap_kind
from teamtells.errors import InvalidNumber, InvalidOperation, InvalidProgram, InvalidSystem
from teamtells.systems.programs import MAX_OBJECTS, MAX_ROWS, MAX_RUNNERS, Program, System, is_rows, is_system
from tests.cases import Case, shown, values, values_but, values_but_numbers, values_but_texts
from tests.systems import ALONE, CELL, CLAIM, FLAG, PAIR, SLOT, TAKE, some_systems
from tests.walks import near

DO = ("do", 0, "set", {0: 1, 1: 2})
READ = ("read", 3, {0: 2, 1: 0})
STOP = ("decide", 1)
ROWS = (DO, READ, STOP)
PROGRAM = Program(ROWS, (0, 1))
SYSTEMS = some_systems(31, 60)


class RowsTest(Case):
    def good(self, rows):
        self.same(is_rows(rows), True)
        program = Program(rows, (0, len(rows) - 1))
        self.same((program.rows, program.starts, len(program)), (rows, (0, len(rows) - 1), len(rows)))

    def bad(self, rows, starts=(0, 0)):
        self.same(is_rows(rows), False)
        self.refuses(InvalidProgram, None, Program, rows, starts)

    def test_right_rows(self):
        self.good(ROWS)
        for row in (("decide", 0), ("decide", 1), ("do", 15, "abcdefgh", {99: 0}), ("read", 15, {11: 0}),
                    ("do", 0, "a", {number: 0 for number in range(100)}),
                    ("read", 0, {number: 0 for number in range(12)})):
            self.good((row,))

    def test_how_many_rows(self):
        self.same((MAX_ROWS, MAX_OBJECTS, MAX_RUNNERS), (160, 16, 4))
        for many in (1, 2, 159, 160):
            self.good((("decide", 0),) * (many - 1) + (("read", 0, {0: many - 1}),))
        for many in (0, 161, 162):
            self.bad((("decide", 0),) * many)

    def test_wrong_rows(self):
        for value in values():
            good = shown(value) == shown(PROGRAM_ROWS)
            self.same(is_rows(value), good)
            self.same(is_rows((value,)), False)
            self.same(is_rows(ROWS[:2] + (value,)), False)
            if not good:
                self.refuses(InvalidProgram, None, Program, value, (0, 0))
            self.refuses(InvalidProgram, None, Program, (value,), (0, 0))

    def test_wrong_parts(self):
        for value in values_but_numbers(0, 15):
            self.bad((("do", value, "set", {0: 0}),))
            self.bad((("read", value, {0: 0}),))
        for value in values_but_texts("a", "z", "add", "set", "sets", "abcdefgh"):
            self.bad((("do", 0, value, {0: 0}),))
        for value in values_but_numbers(0, 1):
            self.bad((("decide", value),))
        for value in values_but({0: 0}):
            if shown(value) != shown({number: 0 for number in range(12)}):
                self.bad((("do", 0, "set", value),))
                self.bad((("read", 0, value),))
        for value in values():
            self.bad(((value, 0),))
            self.bad(((value, 0, {0: 0}),))
            self.bad(((value, 0, "set", {0: 0}),))

    def test_wrong_moves(self):
        keys = [value for value in values() if isinstance(value, (int, str, tuple, bool)) or value is None]
        keys = [value for value in keys if hashed(value)]
        for value in keys:
            number = isinstance(value, int) and not isinstance(value, bool)
            self.same(is_rows((("do", 0, "set", {value: 0}),)), number and 0 <= value <= 99)
            self.same(is_rows((("read", 0, {value: 0}),)), number and 0 <= value <= 11)
            # False is no new key beside 0, so that it is lost before it is passed.
            self.same(is_rows((("read", 0, {0: 0, value: 0}),)), value == 0 or number and 0 <= value <= 11)
        for value in values_but_numbers(0, 2):
            self.bad((("do", 0, "set", {0: value}), STOP, STOP))
            self.bad((("read", 0, {0: 1, 1: value}), STOP, STOP))
        for rows in ((("do", 0, "set", {100: 0}),), (("read", 0, {12: 0}),), (("do", 0, "set", {0: 1}),),
                     (("do", 16, "set", {0: 0}),), (("read", 16, {0: 0}),), (("read", 0, {True: 0}),),
                     (("do", 0, "set", {0: False}),), (("do", 0, "set", {}),), (("read", 0, {}),)):
            self.bad(rows)

    def test_rows_near_right_ones(self):
        for row in (("do", 0, "set", {0: 0}), ("read", 0, {0: 0}), ("decide", 1)):
            self.same(is_rows((row,)), True)
            for value in near(row):
                good = shown(value) in (shown(("decide", 0)), shown(("read", 1, {0: 0})),
                    shown(("do", 1, "set", {0: 0})))
                self.same(is_rows((value,)), good)
        self.bad(list(ROWS))
        self.bad((list(DO), READ, STOP))
        self.bad((("do", "set", 0, {0: 0}),))
        self.bad((("do", 0, "set", (0, 0)),))
        self.bad((("decide", 0, 0),))
        self.bad((("decide",),))
        self.bad(((),))

    def test_wrong_starts(self):
        right = [(one, other) for one in range(3) for other in range(3)]
        for starts in right:
            self.same(Program(ROWS, starts).starts, starts)
        texts = [shown(starts) for starts in right]
        for value in values() + near((0, 1)):
            if shown(value) not in texts:
                self.refuses(InvalidProgram, None, Program, ROWS, value)
        for value in values_but_numbers(0, 2):
            self.refuses(InvalidProgram, None, Program, ROWS, (0, value))
            self.refuses(InvalidProgram, None, Program, ROWS, (value, 0))


def hashed(value):
    try:
        hash(value)
    except TypeError:
        return False
    return True


PROGRAM_ROWS = (("do", 0, "set", {0: 1, 1: 2}), ("decide", 0), ("decide", 1))


class ProgramTest(Case):
    def test_rows_one_by_one(self):
        self.same([PROGRAM.row(index) for index in range(3)], list(ROWS))
        for call in (PROGRAM.row, PROGRAM.rows_from):
            for value in values_but_numbers(0, 2):
                self.refuses(InvalidNumber, value, call, value)

    def test_moves_are_ascending(self):
        program = Program((("do", 0, "set", {5: 0, 1: 1, 3: 1}), ("read", 0, {2: 0, 0: 1})), (0, 1))
        self.same([list(row[-1]) for row in program.rows], [[1, 3, 5], [0, 2]])
        self.same([list(program.row(index)[-1]) for index in (0, 1)], [[1, 3, 5], [0, 2]])
        self.same(program, Program((("do", 0, "set", {1: 1, 3: 1, 5: 0}), ("read", 0, {0: 1, 2: 0})), (0, 1)))

    def test_rows_from_a_row(self):
        self.same([TAKE.rows_from(index) for index in range(7)],
                  [(0, 2, 3, 4, 5, 6), (1, 2, 3, 4, 5, 6), (2, 3, 4, 5, 6), (3, 4, 6), (4,), (4, 5, 6), (6,)])
        self.same([PROGRAM.rows_from(index) for index in range(3)], [(0, 1, 2), (0, 1, 2), (2,)])
        long = Program(tuple(("read", 0, {0: index + 1}) for index in range(159)) + (STOP,), (0, 0))
        self.same(long.rows_from(0), tuple(range(160)))
        self.same(Program((("read", 0, {0: 0}), STOP), (0, 0)).rows_from(0), (0,))

    def test_with_a_row(self):
        other = PROGRAM.with_row(1, ("decide", 0))
        self.same(other.rows, (DO, ("decide", 0), STOP))
        self.same((other.starts, PROGRAM.rows), ((0, 1), ROWS))
        right = [("decide", 0), ("decide", 1)]
        wrong = ((InvalidNumber, values_but_numbers(0, 2)), (InvalidProgram, values_but(*right)))
        self.refuses_each(PROGRAM.with_row, (0, STOP), wrong)
        self.refuses(InvalidProgram, None, PROGRAM.with_row, 0, ("read", 0, {0: 3}))
        self.refuses(InvalidProgram, None, PROGRAM.with_row, 0, ("read", 0, {12: 0}))
        self.same(PROGRAM.with_row(2, ("read", 15, {11: 2})).row(2), ("read", 15, {11: 2}))

    def test_opposite(self):
        self.same(TAKE.opposite().starts, (1, 0))
        self.same(PROGRAM.opposite(), Program((DO, READ, ("decide", 0)), (1, 0)))
        for system in SYSTEMS:
            for program in system.programs:
                opposite = program.opposite()
                self.same(opposite.opposite(), program)
                for row, other in zip(program.rows, opposite.rows):
                    self.same(other, ("decide", 1 - row[1]) if row[0] == "decide" else row)

    def test_on_other_objects(self):
        self.same(PROGRAM.on({0: 15, 3: 7}).rows, (("do", 15, *DO[2:]), ("read", 7, READ[2]), STOP))
        self.same(PROGRAM.on({3: 2, 0: 2}).rows, (("do", 2, *DO[2:]), ("read", 2, READ[2]), STOP))
        self.same(PROGRAM.on({0: 3, 3: 0}).on({3: 0, 0: 3}), PROGRAM)
        self.same(ALONE.on({}), ALONE)
        for value in values():
            self.refuses(InvalidOperation, None, PROGRAM.on, value)
            if value != {}:
                self.refuses(InvalidOperation, None, ALONE.on, value)
        for numbers in ({0: 0}, {0: 0, 3: 0, 4: 0}, {0: 0, 2: 0}, {0: 16, 3: 0}, {0: -1, 3: 0}, {0: 0, 3: True},
                {False: 0, 3: 0},
                        {0: 0, 3: None}, {0: 0, "3": 0}, ((0, 0), (3, 0)), {0: 0, 3: 0, None: 0}):
            self.refuses(InvalidOperation, None, PROGRAM.on, numbers)
        for value in values_but_numbers(0, 15):
            self.refuses(InvalidOperation, None, PROGRAM.on, {0: 0, 3: value})

    def test_operators(self):
        self.same((len(PROGRAM), str(PROGRAM), str(TAKE), str(Program((STOP,), (0, 0)))),
                  (3, "program of 3 rows", "program of 7 rows", "program of 1 rows"))
        self.assertIs(PROGRAM == Program(ROWS, (0, 1)), True)
        others = [Program(ROWS, (1, 0)), Program(ROWS[::-1], (0, 1)), Program(ROWS + (STOP,), (0, 1)),
            PROGRAM.opposite()]
        for other in others + values():
            self.assertIs(PROGRAM == other, False)
            self.assertIs(PROGRAM != other, True)
        for call in (list, iter):
            with self.assertRaises(TypeError):
                call(PROGRAM)


class SystemTest(Case):
    def good(self, objects, programs):
        self.same(is_system(objects, programs), True)
        system = System(objects, programs)
        self.same((system.objects, system.programs, len(system)), (objects, programs, len(programs)))

    def bad(self, objects, programs):
        self.same(is_system(objects, programs), False)
        self.refuses(InvalidSystem, None, System, objects, programs)

    def none(self, objects):
        self.refuses(InvalidSystem, None, is_system, objects, (ALONE,))
        self.refuses(InvalidSystem, None, is_system, objects, None)
        self.refuses(InvalidSystem, None, System, objects, (ALONE,))

    def test_how_many(self):
        for many in range(1, 5):
            self.good((), (ALONE,) * many)
        for many in (0, 5, 6):
            self.bad((), (ALONE,) * many)
        for many in (0, 1, 15, 16):
            self.good(((FLAG, 0),) * many, (ALONE,))
        self.none(((FLAG, 0),) * 17)

    def test_wrong_objects(self):
        right = [shown(()), shown(((FLAG, 0),))]
        for value in values() + [[], [(FLAG, 0)], ([FLAG, 0],), ((FLAG,),), ((FLAG, 0, 0),), ((0, FLAG),)]:
            if shown(value) not in right:
                self.none(value)
            self.none((value,))
        self.none((FLAG, 0))
        for value in values_but_numbers(0, 1):
            self.none(((FLAG, 0), (FLAG, value)))
        for kind in (FLAG, CELL, SLOT, adder_kind(12)):
            self.good(((kind, kind.size - 1),), (ALONE,))
            self.none(((kind, kind.size),))

    def test_wrong_programs(self):
        for value in values():
            if not (isinstance(value, tuple) and value and all(isinstance(part, Program) for part in value)):
                self.bad(((CELL, 0),), value)
            if not isinstance(value, Program):
                self.bad(((FLAG, 0),), (value,))
                self.bad(((FLAG, 0),), (ALONE, value))
        self.bad((), [ALONE])
        self.bad((), ALONE)
        self.bad((), (ALONE.rows,))

    def test_answers_and_states(self):
        do, read = ("do", 0, "set", {0: 0, 1: 0}), ("read", 0, {0: 0, 1: 0})
        flag = ((FLAG, 0),)
        for row in (do, read):
            self.good(flag, (Program((row,), (0, 0)),))
            self.bad((), (Program((row,), (0, 0)),))
            self.good(flag, (ALONE, Program((("decide", 0), row), (0, 0))))
            self.bad((), (ALONE, Program((("decide", 0), row), (0, 0))))
        self.good(flag, (Program((("do", 0, "set", {1: 0, 0: 0}),), (0, 0)),))
        for moves in ({0: 0}, {1: 0}, {0: 0, 1: 0, 2: 0}, {0: 0, 2: 0}, {0: 0, 1: 0, 99: 0}):
            self.bad(flag, (Program((("do", 0, "set", moves),), (0, 0)),))
        for moves in ({0: 0}, {1: 0}, {0: 0, 1: 0, 2: 0}, {0: 0, 11: 0}):
            self.bad(flag, (Program((("read", 0, moves),), (0, 0)),))
        for row in (("do", 0, "puta", {0: 0}), ("do", 1, "set", {0: 0, 1: 0}), ("read", 1, {0: 0, 1: 0})):
            self.bad(flag, (Program((row,), (0, 0)),))
            self.bad(flag, (ALONE, Program((row,), (0, 0))))
        self.good(((FLAG, 0), (CELL, 1)), (Program((do, ("do", 1, "putb", {0: 0}), read), (0, 0)),))
        # The answers count that the operation gives in some state, reached or not.
        self.good(((SLOT, 2),), (Program((("do", 0, "seta", {1: 0, 2: 0}),), (0, 0)),))
        self.bad(((SLOT, 2),), (Program((("do", 0, "seta", {2: 0}),), (0, 0)),))
        fade = fading_kind(5)
        self.good(((fade, 0),), (Program((("read", 0, {state: 0 for state in range(12)}),), (0, 0)),))
        self.bad(((fade, 0),), (Program((("read", 0, {state: 0 for state in range(11)}),), (0, 0)),))
        swap = swap_kind(3)
        self.good(((swap, 0),), (Program((("do", 0, "swapa", {0: 0, 1: 0, 2: 0}),), (0, 0)),))

    def test_the_last_object(self):
        row = ("do", 15, "set", {0: 0, 1: 0})
        self.good(((FLAG, 0),) * 16, (Program((row,), (0, 0)),))
        self.bad(((FLAG, 0),) * 15, (Program((row,), (0, 0)),))

    def test_objects_of_threads(self):
        self.same([PAIR.objects_of(thread) for thread in (0, 1)], [(0, 1, 2), (0, 1, 2)])
        mixed = System(((FLAG, 0), (CELL, 0), (SLOT, 0)), (CLAIM.on({0: 2}), ALONE, TAKE.on({0: 0, 1: 1, 2: 1})))
        self.same([mixed.objects_of(thread) for thread in range(3)], [(2,), (), (0, 1)])
        for value in values_but_numbers(0, 2):
            self.refuses(InvalidNumber, value, mixed.objects_of, value)

    def test_all_rows(self):
        for system in SYSTEMS:
            self.same(system.rows, sum(len(program.rows) for program in system.programs))

    def test_with_a_program(self):
        other = PAIR.with_program(1, ALONE)
        self.same((other.programs, other.objects, PAIR.programs[0]), ((TAKE, ALONE), PAIR.objects, TAKE))
        wrong = [value for value in values() if not isinstance(value, Program)]
        wrong.append(Program((("read", 3, {0: 0, 1: 0}),), (0, 0)))
        self.refuses_each(PAIR.with_program, (0, ALONE),
                          ((InvalidNumber, values_but_numbers(0, 1)), (InvalidSystem, wrong)))
        self.same(PAIR.with_program(0, ALONE).programs, (ALONE, PAIR.programs[1]))
        four = System((), (ALONE,) * 4)
        for thread in range(4):
            programs = four.with_program(thread, ALONE.opposite()).programs
            self.same([program == ALONE for program in programs], [other != thread for other in range(4)])

    def test_opposite(self):
        for system in SYSTEMS:
            opposite = system.opposite()
            self.same(opposite.programs, tuple(program.opposite() for program in system.programs))
            self.same((opposite.objects, opposite.opposite()), (system.objects, system))

    def test_operators(self):
        self.same((len(PAIR), str(PAIR), str(System((), (ALONE,)))),
                  (2, "system of 2 threads, 3 objects", "system of 1 threads, 0 objects"))
        self.assertIs(PAIR == System(PAIR.objects, PAIR.programs), True)
        others = [
            System(PAIR.objects, PAIR.programs[::-1]), System(((FLAG, 1),) + PAIR.objects[1:], PAIR.programs),
            System(PAIR.objects, (TAKE,)), System(PAIR.objects + ((CELL, 0),), PAIR.programs), PAIR.opposite(),
        ]
        for other in others + values():
            self.assertIs(PAIR == other, False)
            self.assertIs(PAIR != other, True)
        for call in (list, iter):
            with self.assertRaises(TypeError):
                call(PAIR)


class SharingTest(Case):
    def test_passed_moves_can_be_changed(self):
        moves, states = {0: 1, 1: 2}, {0: 2, 1: 0}
        rows = (("do", 0, "set", moves), ("read", 0, states), STOP)
        program = Program(rows, (0, 1))
        system = System(((FLAG, 0),), (program,))
        before = shown((program, system))
        moves[0] = 0
        moves[7] = 7
        states.clear()
        self.assertEqual(shown((program, system)), before)
        self.same(program.rows_from(0), (0, 1, 2))

    def test_returned_moves_can_be_changed(self):
        program = Program(ROWS, (0, 1))
        system = System(((FLAG, 0),) * 4, (program,))
        before = shown((program, system))
        for rows in (program.rows, system.programs[0].rows):
            rows[0][3].clear()
            rows[1][2][0] = 7
        program.row(0)[3][0] = 9
        program.row(1)[2].clear()
        self.assertEqual(shown((program, system)), before)

    def test_moves_of_a_passed_row_can_be_changed(self):
        moves = {0: 1, 1: 1}
        program = PROGRAM.with_row(0, ("do", 0, "set", moves))
        other = program.opposite()
        numbers = {0: 0, 3: 0}
        third = program.on(numbers)
        before = shown((program, other, third))
        moves[0] = 2
        numbers.clear()
        program.rows[0][3].clear()
        other.rows[0][3].clear()
        self.assertEqual(shown((program, other, third)), before)

    def test_objects_that_are_asked_change_nothing(self):
        before = shown(PAIR)
        self.assertIs(is_system(PAIR.objects, PAIR.programs), True)
        PAIR.objects[0][0].operations.clear()
        self.assertEqual(shown(PAIR), before)
        for value in (PAIR.objects, PAIR.programs, PAIR.objects_of(0), TAKE.rows, TAKE.starts, TAKE.rows_from(0)):
            self.assertIs(value.__class__, tuple)


if __name__ == "__main__":
    unittest.main()
