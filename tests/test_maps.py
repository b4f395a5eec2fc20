"""Kinds side by side, kinds that are cut, maps and images [1.1]."""

import itertools
import unittest

from teamtells.base.kinds import Kind, beside, cut_kind, image_of, is_map
from teamtells.base.made import adder_kind, cell_kind, fading_kind, flag_kind, queue_kind, slot_kind, swap_kind
from teamtells.errors import InvalidKind, InvalidNumber, InvalidOperation, TooMany
from tests.cases import SIXTY, SIXTY_ONE, Case, shown, values, values_but_kinds, values_but_numbers

ADD = Kind({"add": ((1, 0), (2, 1), (0, 2))})
FLAG = flag_kind()
LOOSE = Kind({"set": ((1, 0), (2, 1), (2, 1))})


def looped(many, *names):
    """A kind of so many states whose operations lead nowhere and answer the state."""
    return Kind({name: tuple((state, state) for state in range(many)) for name in names})


def small_kinds():
    """All kinds of three states with one operation, and of two states with two, that answer 0 or 1."""
    three = list(itertools.product(range(3), range(2)))
    two = list(itertools.product(range(2), range(2)))
    found = [Kind({"a": row}) for row in itertools.product(three, repeat=3)]
    rows = list(itertools.product(two, repeat=2))
    return found + [Kind({"a": one, "b": other}) for one in rows for other in rows]


def heard(kind, state, words):
    """The answers to each of the words of operations, done from the state on."""
    found = []
    for word in words:
        here, answers = state, []
        for name in word:
            here, answer = kind.operations[name][here]
            answers.append(answer)
        found.append(tuple(answers))
    return found


def all_words(kind):
    """Words of operations that are long enough to tell states apart."""
    return [word for many in range(1, kind.size + 1) for word in itertools.product(kind.names, repeat=many)]


def leads(kind, other, value):
    """Whether a tuple of states fits a map, straight by its definition."""
    for name, row in kind.operations.items():
        for state, (behind, answer) in enumerate(row):
            if other.operations[name][value[state]] != (value[behind], answer):
                return False
    return True


class BesideTest(Case):
    def test_states_and_operations(self):
        both = beside(ADD, FLAG)
        self.same(both.operations, {
            "add": ((2, 0), (3, 0), (4, 1), (5, 1), (0, 2), (1, 2)),
            "set": ((1, 0), (1, 1), (3, 0), (3, 1), (5, 0), (5, 1)),
        })
        self.same(beside(FLAG, ADD).operations, {
            "add": ((1, 0), (2, 1), (0, 2), (4, 0), (5, 1), (3, 2)),
            "set": ((3, 0), (4, 0), (5, 0), (3, 1), (4, 1), (5, 1)),
        })

    def test_each_operation_works_on_its_own_part(self):
        one, other = slot_kind(2), swap_kind(3).renamed({"swapa": "a", "swapb": "b", "swapc": "c"})
        both = beside(one, other)
        self.same(both.names, ("a", "b", "c", "seta", "setb"))
        for state, kept in itertools.product(range(3), range(3)):
            for name in one.names:
                behind, answer = one.after(state, name)
                self.same(both.after(state * 3 + kept, name), (behind * 3 + kept, answer))
            for name in other.names:
                behind, answer = other.after(kept, name)
                self.same(both.after(state * 3 + kept, name), (state * 3 + behind, answer))

    def test_least_and_greatest_numbers(self):
        self.same(beside(looped(1, "a"), looped(1, "b")).size, 1)
        for one, other in ((1, 12), (12, 1), (3, 4), (2, 6)):
            self.same(beside(looped(one, "a"), looped(other, "b")).size, 12)
        for one, other in ((1, 5), (5, 1), (3, 3)):
            both = beside(looped(2, *"abcde"[:one]), looped(2, *"vwxyz"[:other]))
            self.same(len(both), 6)

    def test_too_many(self):
        for one, other in ((2, 7), (7, 2), (12, 12), (4, 4), (5, 3)):
            self.refuses(TooMany, 12, beside, looped(one, "a"), looped(other, "b"))
        for one, other in ((6, 1), (1, 6), (4, 3), (6, 6)):
            self.refuses(TooMany, 6, beside, looped(2, *"abcdef"[:one]), looped(2, *"uvwxyz"[:other]))

    def test_same_names(self):
        self.refuses(InvalidOperation, None, beside, FLAG, FLAG)
        self.refuses(InvalidOperation, None, beside, looped(2, "a", "b"), looped(2, "b", "c"))
        self.refuses(InvalidOperation, None, beside, looped(2, "b", "c"), looped(2, "a", "c"))

    def test_errors_in_their_order(self):
        self.refuses(InvalidOperation, None, beside, looped(12, *"abcdef"), looped(12, *"abcdef"))
        self.refuses(InvalidOperation, None, beside, looped(2, *"abcdef"), looped(2, "f"))
        self.refuses(InvalidOperation, None, beside, looped(12, "a"), looped(2, "a"))
        self.refuses(TooMany, 12, beside, looped(12, *"abcdef"), looped(2, "x"))
        self.refuses(TooMany, 6, beside, looped(6, *"abcdef"), looped(2, "x"))

    def test_wrong_values(self):
        for value in values_but_kinds():
            self.refuses(InvalidKind, None, beside, value, FLAG)
            self.refuses(InvalidKind, None, beside, FLAG, value)
            self.refuses(InvalidKind, None, beside, value, value)


class CutKindTest(Case):
    def test_cut(self):
        smaller, states = cut_kind(beside(ADD, FLAG).without("add"), 2)
        self.same((smaller.operations, states), ({"set": ((1, 0), (1, 1))}, (2, 3)))
        smaller, states = cut_kind(beside(ADD, FLAG).without("set"), 3)
        self.same((smaller.operations, states), ({"add": ((1, 0), (2, 1), (0, 2))}, (1, 3, 5)))

    def test_nothing_is_cut(self):
        for state in range(3):
            self.same(cut_kind(ADD, state), (ADD, (0, 1, 2)))

    def test_states_stand_for_reached_ones(self):
        for kind in [slot_kind(3), fading_kind(3), queue_kind(2), LOOSE] + small_kinds():
            for state in range(kind.size):
                smaller, states = cut_kind(kind, state)
                self.same(states, kind.reached(state))
                self.same((smaller.size, smaller.names), (len(states), kind.names))
                self.assertIs(is_map(smaller, kind, states), True)

    def test_wrong_values(self):
        for value in values_but_kinds():
            self.refuses(InvalidKind, None, cut_kind, value, 0)
            self.refuses(InvalidKind, None, cut_kind, value, value)
        for value in values_but_numbers(0, 2):
            self.refuses(InvalidNumber, value, cut_kind, ADD, value)


class IsMapTest(Case):
    def test_maps_and_others(self):
        self.assertIs(is_map(LOOSE, FLAG, (0, 1, 1)), True)
        self.assertIs(is_map(FLAG, LOOSE, (0, 1)), False)
        self.assertIs(is_map(FLAG, LOOSE, (0, 2)), False)
        self.assertIs(is_map(FLAG, LOOSE, (1, 2)), False)
        self.assertIs(is_map(FLAG, FLAG, (0, 1)), True)
        self.assertIs(is_map(FLAG, FLAG, (1, 0)), False)
        self.assertIs(is_map(ADD, ADD, (0, 1, 2)), True)
        self.assertIs(is_map(ADD, ADD, (1, 2, 0)), False)
        self.assertIs(is_map(ADD.silent(), ADD.silent(), (1, 2, 0)), True)
        self.assertIs(is_map(ADD.silent(), ADD.silent(), (1, 0, 2)), False)

    def test_states_need_not_be_met_by_a_map(self):
        # A state behind the second one that nothing leads to.
        longer = Kind({"set": ((1, 0), (1, 1), (1, 0))})
        self.assertIs(is_map(FLAG, longer, (0, 1)), True)
        self.assertIs(is_map(FLAG, longer, (2, 1)), True)

    def test_all_tuples_between_small_kinds(self):
        kinds = [kind for kind in small_kinds() if len(kind) == 1][::11]
        for kind, other in itertools.product(kinds, kinds):
            for value in itertools.product(range(3), repeat=3):
                self.assertIs(is_map(kind, other, value), leads(kind, other, value))

    def test_each_operation_counts(self):
        both = Kind({"a": ((1, 0), (0, 0)), "b": ((0, 1), (1, 2))})
        swapped = both.renamed({"a": "b", "b": "a"})
        self.assertIs(is_map(both, both, (1, 0)), False)
        self.assertIs(is_map(swapped, swapped, (1, 0)), False)
        self.assertIs(is_map(both.without("b"), both.without("b"), (1, 0)), True)

    def test_kinds_with_other_names_have_none(self):
        one, other, more = looped(2, "a"), looped(2, "b"), looped(2, "a", "b")
        for kind, target in itertools.permutations((one, other, more), 2):
            self.assertIs(is_map(kind, target, (0, 1)), False)
        self.assertIs(is_map(more, looped(2, "b", "a"), (0, 1)), True)

    def test_every_value_is_judged(self):
        for value in values():
            self.assertIs(is_map(FLAG, FLAG, value), shown(value) == shown((0, 1)))
        wrong = (
            (0,), (0, 1, 1), (0, 2), (0, -1), [0, 1], (False, True), (0, True), (False, 1), (0, "1"), (0, None),
            (0, SIXTY), (0, SIXTY_ONE), (0, (1,)), (0, [1]), {0: 0, 1: 1}, "01", ((0, 1),), (FLAG, FLAG), FLAG,
        )
        for value in wrong:
            self.assertIs(is_map(FLAG, FLAG, value), False)

    def test_states_are_those_of_the_other_kind(self):
        self.assertIs(is_map(looped(1, "a").silent(), looped(2, "a").silent(), (1,)), True)
        self.assertIs(is_map(looped(2, "a").silent(), looped(1, "a").silent(), (0, 0)), True)
        self.assertIs(is_map(looped(2, "a").silent(), looped(1, "a").silent(), (0, 1)), False)

    def test_wrong_kinds(self):
        for value in values_but_kinds():
            self.refuses(InvalidKind, None, is_map, value, FLAG, (0, 1))
            self.refuses(InvalidKind, None, is_map, FLAG, value, (0, 1))
            self.refuses(InvalidKind, None, is_map, value, value, value)


class ImageTest(Case):
    def test_images(self):
        self.same(image_of(LOOSE), (FLAG, (0, 1, 1)))
        self.same(image_of(ADD), (ADD, (0, 1, 2)))
        self.same(image_of(cell_kind(3)), (Kind({name: ((0, 0),) for name in ("puta", "putb", "putc")}), (0, 0, 0)))
        self.same(image_of(ADD.silent()), (Kind({"add": ((0, 0),)}), (0, 0, 0)))

    def test_images_are_numbered_by_their_first_states(self):
        kind = Kind({"a": ((2, 7), (1, 5), (0, 7), (1, 6), (1, 5))})
        self.same(image_of(kind), (Kind({"a": ((0, 7), (1, 5), (1, 6))}), (0, 1, 0, 2, 1)))

    def test_states_that_only_long_rows_tell_apart(self):
        chain = Kind({"a": tuple((min(state + 1, 11), int(state == 11)) for state in range(12))})
        self.same(image_of(chain), (chain, tuple(range(12))))
        back = chain.turned(tuple(range(11, -1, -1)))
        self.same(image_of(back), (back, tuple(range(12))))

    def test_each_operation_counts(self):
        kind = Kind({"a": ((1, 0), (0, 0), (2, 0)), "b": ((0, 0), (1, 0), (2, 1))})
        self.same(image_of(kind)[1], (0, 0, 1))
        self.same(image_of(kind.without("b"))[1], (0, 0, 0))
        self.same(image_of(kind.renamed({"a": "b", "b": "a"}))[1], (0, 0, 1))

    def check_image(self, kind):
        other, found = image_of(kind)
        words = all_words(kind)
        told = [heard(kind, state, words) for state in range(kind.size)]
        firsts = []
        for one in told:
            if one not in firsts:
                firsts.append(one)
        self.same(found, tuple(firsts.index(one) for one in told))
        self.same((other.size, other.names), (len(firsts), kind.names))
        self.assertIs(is_map(kind, other, found), True)
        self.same(image_of(other), (other, tuple(range(other.size))))

    def test_two_states_have_one_image_exactly_if_all_rows_answer_alike(self):
        for kind in small_kinds():
            self.check_image(kind)

    def test_greater_kinds(self):
        kinds = [beside(ADD, FLAG), queue_kind(2), adder_kind(6), beside(LOOSE, adder_kind(2)), fading_kind(1)]
        for kind in kinds + [kind.silent() for kind in kinds[:2]]:
            self.check_image(kind)

    def test_maps_one_behind_the_other_are_a_map(self):
        kinds = [LOOSE, FLAG] + [kind for kind in small_kinds() if len(kind) == 1][::23]
        maps = [
            (kind, other, value) for kind, other in itertools.product(kinds, kinds)
            for value in itertools.product(range(other.size), repeat=kind.size) if is_map(kind, other, value)
        ]
        chained = 0
        for (kind, middle, one), (start, other, two) in itertools.product(maps, maps):
            if middle == start:
                chained += 1
                self.assertIs(is_map(kind, other, tuple(two[state] for state in one)), True)
        self.assertGreater(chained, 20)

    def test_wrong_values(self):
        for value in values_but_kinds():
            self.refuses(InvalidKind, None, image_of, value)


if __name__ == "__main__":
    unittest.main()
