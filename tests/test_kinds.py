"""Names [0.7], kinds [0.8], and what a kind tells of itself."""

import unittest

from teamtells.base.kinds import Kind, is_name
from teamtells.base.made import flag_kind
from teamtells.errors import InvalidKind, InvalidNumber, UnknownName
from tests.cases import (
    SIXTY, SIXTY_ONE, Case, integers, nested, values, values_but, values_but_numbers, values_but_texts,
)

ADD = Kind({"add": ((1, 0), (2, 1), (0, 2))})
BRANCH = Kind({"left": ((1, 0), (1, 7), (3, 0), (3, 99)), "right": ((2, 5), (1, 7), (2, 3), (3, 0))})
FLAG_ROW = ((1, 0), (1, 1))


def looped(many, answer=0):
    """A row of so many states that leads nowhere."""
    return tuple((state, answer) for state in range(many))


def named(many, row=FLAG_ROW):
    """Operations with so many names, in descending order."""
    return {name: row for name in ("zeta", "six", "five", "four", "eta", "b", "a")[:many]}


class NamesTest(Case):
    def test_names_have_one_to_eight_letters(self):
        for many in range(1, 9):
            self.assertIs(is_name("z" * many), True)
        for word in ("", "z" * 9, "z" * 10, "z" * 2000):
            self.assertIs(is_name(word), False)

    def test_each_letter_and_no_other_character(self):
        for code in range(128):
            letter = chr(code)
            for word in (letter, "a" + letter, letter + "a", "abc" + letter + "def"):
                self.assertIs(is_name(word), "a" <= letter <= "z", repr(word))

    def test_other_values_are_no_names(self):
        names = ("a", "z", "add", "set", "sets", "abcdefgh")
        for word in names:
            self.assertIs(is_name(word), True)
        for value in values_but_texts(*names):
            self.assertIs(is_name(value), False, repr(value)[:80])


class KindOperationsTest(Case):
    def test_least_and_greatest_numbers_of_states(self):
        for many in range(1, 13):
            kind = Kind({"stay": looped(many)})
            self.same(kind.size, many)
            self.same(kind.operations, {"stay": looped(many)})
        for many in (0, 13, 14, 40):
            self.refuses(InvalidKind, None, Kind, {"stay": looped(many)})

    def test_least_and_greatest_numbers_of_operations(self):
        for many in range(1, 7):
            kind = Kind(named(many))
            self.same(len(kind), many)
            self.same(kind.names, tuple(sorted(named(many))))
        for many in (0, 7):
            self.refuses(InvalidKind, None, Kind, named(many))

    def test_least_and_greatest_answers(self):
        self.same(Kind({"a": ((0, 0), (1, 99))}).operations, {"a": ((0, 0), (1, 99))})
        for answer in (-1, 100, SIXTY, SIXTY_ONE, -SIXTY, -SIXTY_ONE):
            self.refuses(InvalidKind, None, Kind, {"a": ((0, 0), (1, answer))})

    def test_next_states_are_states(self):
        for many in (1, 2, 12):
            for state in (-1, -many, many, many + 1, SIXTY, SIXTY_ONE):
                self.refuses(InvalidKind, None, Kind, {"a": looped(many - 1) + ((state, 0),)})

    def test_all_rows_have_the_same_length(self):
        for one, other in ((1, 2), (2, 1), (12, 11), (2, 0), (2, 13)):
            self.refuses(InvalidKind, None, Kind, {"a": looped(one), "b": looped(other)})
        # The next states of the longer row are states of the longer one only.
        self.refuses(InvalidKind, None, Kind, {"a": looped(2), "b": ((0, 0), (1, 0), (1, 0))})
        self.refuses(InvalidKind, None, Kind, {"a": looped(3), "b": ((0, 0), (1, 0))})

    def test_all_keys_are_names(self):
        for name in ("", "abcdefghi", "A", "a1", "a b", "a\n", 0, 1, True, None, (), ("a",)):
            self.refuses(InvalidKind, None, Kind, {name: FLAG_ROW})
            self.refuses(InvalidKind, None, Kind, {"a": FLAG_ROW, name: FLAG_ROW})
        for name in ("a", "abcdefgh"):
            self.same(Kind({name: FLAG_ROW}).names, (name,))

    def test_each_wrong_value_is_refused_as_operations(self):
        for value in values_but({"set": ((0, 0),)}):
            self.refuses(InvalidKind, None, Kind, value)
        self.same(Kind({"set": ((0, 0),)}).size, 1)

    def test_each_wrong_value_is_refused_as_row(self):
        for value in values_but(((0, 0), (1, 0))):
            self.refuses(InvalidKind, None, Kind, {"a": FLAG_ROW, "b": value})
            self.refuses(InvalidKind, None, Kind, {"b": value, "a": FLAG_ROW})

    def test_each_wrong_value_is_refused_as_pair(self):
        for value in values_but((0, 0), (0, 1), (1, 0)):
            self.refuses(InvalidKind, None, Kind, {"a": ((0, 0), value)})
            self.refuses(InvalidKind, None, Kind, {"a": (value, (0, 0))})

    def test_each_wrong_value_is_refused_as_state_and_as_answer(self):
        for value in values_but_numbers(0, 1):
            self.refuses(InvalidKind, None, Kind, {"a": ((0, 0), (value, 0))})
        for value in values_but_numbers(0, 99):
            self.refuses(InvalidKind, None, Kind, {"a": ((0, value), (0, 0))})
        for value in integers():
            if 0 <= value <= 99:
                self.same(Kind({"a": ((0, value), (0, 0))}).answers("a"), tuple(sorted({0, value})))

    def test_wrong_forms_of_rows_and_pairs(self):
        wrong = (
            [(0, 0)], ((0, 0, 0),), ((0,),), ((),), ([0, 0],), (0, 0), ((0, 0), 0), ({0: 0},), "ab", ("ab",),
            {0: (0, 0)}, (((0, 0),),), ((0, (0,)),), (((0,), 0),), ((0, None),), (("0", 0),),
        )
        for row in wrong:
            self.refuses(InvalidKind, None, Kind, {"a": row})

    def test_deep_values(self):
        for wrap in (lambda value: (value,), lambda value: [value], lambda value: {"a": value}):
            for depth in range(9):
                self.refuses(InvalidKind, None, Kind, nested((0, 0), depth, wrap))


class KindPropertiesTest(Case):
    def test_operations_and_names_are_ascending(self):
        kind = Kind({"b": FLAG_ROW, "zz": FLAG_ROW, "a": FLAG_ROW, "ab": FLAG_ROW})
        self.same(list(kind.operations), ["a", "ab", "b", "zz"])
        self.same(kind.names, ("a", "ab", "b", "zz"))

    def test_the_order_of_a_passed_dict_has_no_effect(self):
        one = Kind({"b": FLAG_ROW, "a": ((0, 3), (0, 4))})
        other = Kind({"a": ((0, 3), (0, 4)), "b": FLAG_ROW})
        self.same(one, other)
        self.assertTrue(one == other)
        self.assertEqual(str(one), str(other))

    def test_size_is_the_number_of_states(self):
        self.same((ADD.size, BRANCH.size, flag_kind().size), (3, 4, 2))

    def test_properties_are_set_on_each_object(self):
        for name in ("operations", "names", "size"):
            self.assertTrue(hasattr(ADD, name))

    def test_properties_cannot_be_assigned(self):
        for name, value in (("operations", {}), ("names", ()), ("size", 1)):
            with self.assertRaises(AttributeError):
                setattr(ADD, name, value)
        self.same(ADD.operations, {"add": ((1, 0), (2, 1), (0, 2))})


class KindQuestionsTest(Case):
    def test_after(self):
        self.same([ADD.after(state, "add") for state in range(3)], [(1, 0), (2, 1), (0, 2)])
        self.same(BRANCH.after(3, "left"), (3, 99))
        self.same(BRANCH.after(2, "right"), (2, 3))

    def test_after_refuses_what_is_no_state(self):
        for value in values_but_numbers(0, 2):
            self.refuses(InvalidNumber, value, ADD.after, value, "add")

    def test_after_refuses_what_is_no_operation(self):
        for value in values_but_texts("add"):
            self.refuses(UnknownName, value, ADD.after, 0, value)

    def test_after_looks_at_the_state_first(self):
        for value in values_but_texts("add"):
            self.refuses(InvalidNumber, 3, ADD.after, 3, value)
            self.refuses(InvalidNumber, True, ADD.after, True, value)

    def test_answers_are_ascending_and_each_comes_once(self):
        kind = Kind({"a": ((0, 9), (0, 10), (0, 9), (0, 2)), "b": ((0, 0),) * 4})
        self.same((kind.answers("a"), kind.answers("b")), ((2, 9, 10), (0,)))
        self.same((BRANCH.answers("left"), BRANCH.answers("right")), ((0, 7, 99), (0, 3, 5, 7)))

    def test_answers_refuses_what_is_no_operation(self):
        for value in values_but_texts("add"):
            self.refuses(UnknownName, value, ADD.answers, value)

    def test_reached(self):
        self.same([ADD.reached(state) for state in range(3)], [(0, 1, 2)] * 3)
        self.same([BRANCH.reached(state) for state in range(4)], [(0, 1, 2, 3), (1,), (2, 3), (3,)])

    def test_reached_goes_by_all_operations_and_far(self):
        chain = Kind({"down": tuple((max(state - 1, 0), 0) for state in range(12))})
        self.same([chain.reached(state) for state in range(12)], [tuple(range(state + 1)) for state in range(12)])
        jumps = Kind({"a": ((3, 0), (1, 0), (2, 0), (3, 0)), "b": ((0, 0), (0, 0), (2, 0), (1, 0))})
        self.same([jumps.reached(state) for state in range(4)], [(0, 1, 3), (0, 1, 3), (2,), (0, 1, 3)])

    def test_reached_refuses_what_is_no_state(self):
        for value in values_but_numbers(0, 2):
            self.refuses(InvalidNumber, value, ADD.reached, value)

    def test_in_is_about_names_of_operations(self):
        for value in values_but_texts("add"):
            self.assertIs(value in ADD, False)
            self.assertIs(value not in ADD, True)
        self.assertIs("add" in ADD, True)
        self.assertIs("left" in BRANCH, True)
        self.assertIs("add" in BRANCH, False)

    def test_length_is_the_number_of_operations(self):
        self.same((len(ADD), len(BRANCH)), (1, 2))

    def test_equal_kinds_have_equal_operations(self):
        row = ((0, 0), (1, 5))
        kind = Kind({"a": row, "b": row})
        self.assertIs(kind == Kind({"b": row, "a": row}), True)
        self.assertIs(kind != Kind({"b": row, "a": row}), False)
        others = (
            Kind({"a": row}), Kind({"a": row, "c": row}), Kind({"a": row, "b": ((0, 0), (1, 4))}),
            Kind({"a": row, "b": ((0, 0), (0, 5))}), Kind({"a": looped(3), "b": looped(3)}),
        )
        for other in others:
            self.assertIs(kind == other, False)
            self.assertIs(kind != other, True)

    def test_every_value_can_be_compared(self):
        for value in values():
            self.assertIs(ADD == value, False)
            self.assertIs(value == ADD, False)
            self.assertIs(ADD != value, True)
            self.assertIs(value != ADD, True)
        self.assertIs(ADD == ADD.operations, False)

    def test_text(self):
        self.same(str(flag_kind()), "kind of 2 states: set")
        self.same(str(Kind({"set": FLAG_ROW, "add": FLAG_ROW})), "kind of 2 states: add set")
        self.same(str(Kind({"set": ((0, 0),)})), "kind of 1 states: set")
        self.same(str(Kind(named(6, looped(12)))), "kind of 12 states: b eta five four six zeta")

    def test_kinds_cannot_be_iterated_over(self):
        for action in (iter, list, tuple, sorted, set, dict, enumerate):
            with self.assertRaises(TypeError):
                action(ADD)
        with self.assertRaises(TypeError):
            for _ in BRANCH:
                pass


if __name__ == "__main__":
    unittest.main()
