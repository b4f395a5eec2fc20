"""Kinds that are made from a kind: with and without operations, renamed, turned, silent."""

import itertools
import unittest

from teamtells.base.kinds import Kind
from teamtells.errors import InvalidOperation, TooMany, UnknownName
from tests.cases import SIXTY, SIXTY_ONE, Case, values, values_but, values_but_numbers, values_but_texts

ADD_ROW = ((1, 0), (2, 1), (0, 2))
STAY_ROW = ((0, 4), (1, 5), (2, 6))
BACK_ROW = ((0, 0), (0, 1), (1, 1))
ADD = Kind({"add": ADD_ROW})
BOTH = Kind({"add": ADD_ROW, "stay": STAY_ROW})
FULL = Kind({name: STAY_ROW for name in ("a", "b", "c", "d", "e", "f")})


class WithOperationTest(Case):
    def test_one_more(self):
        kind = ADD.with_operation("aaa", STAY_ROW)
        self.same(kind.operations, {"aaa": STAY_ROW, "add": ADD_ROW})
        self.same(kind, Kind({"aaa": STAY_ROW, "add": ADD_ROW}))
        self.same(ADD.operations, {"add": ADD_ROW})

    def test_in_the_place_of_another(self):
        self.same(ADD.with_operation("add", STAY_ROW).operations, {"add": STAY_ROW})
        self.same(BOTH.with_operation("add", BACK_ROW).operations, {"add": BACK_ROW, "stay": STAY_ROW})

    def test_up_to_six(self):
        five = FULL.without("c")
        self.same(five.with_operation("abcdefgh", ADD_ROW).names, ("a", "abcdefgh", "b", "d", "e", "f"))
        self.refuses(TooMany, 6, FULL.with_operation, "g", ADD_ROW)
        self.same(FULL.with_operation("c", ADD_ROW).operations, {**FULL.operations, "c": ADD_ROW})

    def test_wrong_names(self):
        good = ("a", "z", "add", "set", "sets", "abcdefgh")
        for value in values_but_texts(*good):
            self.refuses(InvalidOperation, None, ADD.with_operation, value, ADD_ROW)
        for name in good:
            self.same(ADD.with_operation(name, ADD_ROW).after(0, name), (1, 0))

    def test_wrong_rows(self):
        for value in values():
            self.refuses(InvalidOperation, None, ADD.with_operation, "more", value)
            self.refuses(InvalidOperation, None, ADD.with_operation, "add", value)

    def test_rows_for_other_numbers_of_states(self):
        wrong = (
            ADD_ROW[:2], ADD_ROW + ((0, 0),), ((0, 0), (1, 0)), ((0, 0),) * 12, list(ADD_ROW), ADD_ROW[:2] + ([0, 0],),
        )
        for row in wrong:
            self.refuses(InvalidOperation, None, ADD.with_operation, "more", row)

    def test_numbers_in_rows(self):
        for value in values_but_numbers(0, 2):
            self.refuses(InvalidOperation, None, ADD.with_operation, "more", ((0, 0), (value, 0), (0, 0)))
        for value in values_but_numbers(0, 99):
            self.refuses(InvalidOperation, None, ADD.with_operation, "more", ((0, 0), (0, value), (0, 0)))
        self.same(ADD.with_operation("more", ((2, 99), (0, 0), (0, 0))).answers("more"), (0, 99))

    def test_too_many_comes_after_all_other_errors(self):
        self.refuses(InvalidOperation, None, FULL.with_operation, "G", STAY_ROW)
        self.refuses(InvalidOperation, None, FULL.with_operation, "g", STAY_ROW[:2])
        self.refuses(InvalidOperation, None, FULL.with_operation, None, None)
        self.same(FULL.names, ("a", "b", "c", "d", "e", "f"))


class WithoutTest(Case):
    def test_one_less(self):
        self.same(BOTH.without("add").operations, {"stay": STAY_ROW})
        self.same(BOTH.without("stay"), ADD)
        self.same(FULL.without("d").names, ("a", "b", "c", "e", "f"))
        self.same(BOTH.names, ("add", "stay"))

    def test_unknown_names(self):
        for value in values_but_texts("add"):
            self.refuses(UnknownName, value, BOTH.without, value)
            self.refuses(UnknownName, value, ADD.without, value)

    def test_the_only_one(self):
        self.refuses(InvalidOperation, None, ADD.without, "add")
        self.same(ADD.operations, {"add": ADD_ROW})


class RenamedTest(Case):
    def test_some_or_none(self):
        self.same(BOTH.renamed({"stay": "abc"}).operations, {"abc": STAY_ROW, "add": ADD_ROW})
        self.same(BOTH.renamed({}), BOTH)
        self.same(BOTH.renamed({"add": "x", "stay": "y"}).operations, {"x": ADD_ROW, "y": STAY_ROW})
        self.same(BOTH.operations, {"add": ADD_ROW, "stay": STAY_ROW})

    def test_all_at_once(self):
        self.same(BOTH.renamed({"add": "stay", "stay": "add"}).operations, {"add": STAY_ROW, "stay": ADD_ROW})
        self.same(BOTH.renamed({"stay": "x", "add": "stay"}).operations, {"stay": ADD_ROW, "x": STAY_ROW})
        self.same(BOTH.renamed({"add": "add"}), BOTH)

    def test_names_would_be_equal(self):
        for names in ({"add": "stay"}, {"add": "x", "stay": "x"}, {"add": "stay", "stay": "stay"}):
            self.refuses(InvalidOperation, None, BOTH.renamed, names)

    def test_keys_are_operations(self):
        keys = ("other", "", "Add", 0, 1, True, False, None, (), ("add",), SIXTY, SIXTY_ONE)
        for key in keys:
            self.refuses(InvalidOperation, None, BOTH.renamed, {key: "x"})
            self.refuses(InvalidOperation, None, BOTH.renamed, {"add": "y", key: "x"})

    def test_values_are_names(self):
        for value in values_but_texts("a", "z", "add", "set", "sets", "abcdefgh"):
            self.refuses(InvalidOperation, None, BOTH.renamed, {"add": value})
            self.refuses(InvalidOperation, None, BOTH.renamed, {"stay": "a", "add": value})
        for name in ("a", "abcdefgh"):
            self.same(ADD.renamed({"add": name}).names, (name,))

    def test_wrong_values(self):
        for value in values_but({}):
            self.refuses(InvalidOperation, None, BOTH.renamed, value)
        for value in ([("add", "x")], (("add", "x"),), "add", ("add", "x")):
            self.refuses(InvalidOperation, None, BOTH.renamed, value)


class TurnedTest(Case):
    def test_each_order_of_three_states(self):
        for numbers in itertools.permutations(range(3)):
            turned = BOTH.turned(numbers)
            self.assertEqual(turned.names, BOTH.names)
            for state, name in itertools.product(range(3), BOTH.names):
                behind, answer = BOTH.after(state, name)
                self.same(turned.after(numbers[state], name), (numbers[behind], answer))

    def test_what_it_makes(self):
        self.same(ADD.turned((1, 2, 0)).operations, {"add": ((1, 2), (2, 0), (0, 1))})
        self.same(BOTH.turned((0, 1, 2)), BOTH)
        self.same(ADD.operations, {"add": ADD_ROW})

    def test_one_and_twelve_states(self):
        self.same(Kind({"a": ((0, 3),)}).turned((0,)).operations, {"a": ((0, 3),)})
        step = Kind({"a": tuple(((state + 1) % 12, state) for state in range(12))})
        opposite = step.turned(tuple(range(11, -1, -1)))
        self.same(opposite.operations, {"a": tuple(((state - 1) % 12, 11 - state) for state in range(12))})

    def test_no_tuple_of_all_states(self):
        wrong = (
            (), (0,), (0, 1), (0, 1, 2, 3), (0, 0, 1), (0, 1, 1), (1, 2, 3), (-1, 0, 1), (0, 2, 2), (0, 1, 3),
            [0, 1, 2], {0: 0, 1: 1, 2: 2}, "012", (0, 1, "2"), (False, True, 2), (0, True, 2), (0, 1, None),
            (0, 1, SIXTY), (0, 1, SIXTY_ONE), (0, (1,), 2), (0, 1, [2]), ((0, 1, 2),),
        )
        for value in wrong:
            self.refuses(InvalidOperation, None, ADD.turned, value)

    def test_wrong_values(self):
        for value in values_but((0, 1, 2)):
            self.refuses(InvalidOperation, None, ADD.turned, value)


class SilentTest(Case):
    def test_all_answers_are_zero(self):
        self.same(BOTH.silent().operations, {
            "add": ((1, 0), (2, 0), (0, 0)), "stay": ((0, 0), (1, 0), (2, 0)),
        })
        self.same(BOTH.operations, {"add": ADD_ROW, "stay": STAY_ROW})
        self.same(BOTH.silent().silent(), BOTH.silent())


if __name__ == "__main__":
    unittest.main()
