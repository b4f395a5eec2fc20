"""Kinds that are often used."""

import itertools
import unittest

from teamtells.base import made
from teamtells.errors import InvalidNumber
from tests.cases import SIXTY, SIXTY_ONE, Case, values_but_numbers

LETTERS = "abcdefgh"
RANGES = {
    made.cell_kind: (1, 6),
    made.adder_kind: (2, 12),
    made.swap_kind: (2, 6),
    made.slot_kind: (1, 6),
    made.fading_kind: (1, 5),
    made.queue_kind: (1, 2),
    made.highest_kind: (2, 6),
}


class RangesTest(Case):
    def test_numbers_in_the_range(self):
        for make, (least, most) in RANGES.items():
            for many in range(least, most + 1):
                self.assertTrue(make(many) == make(many))

    def test_numbers_just_outside(self):
        for make, (least, most) in RANGES.items():
            for many in (least - 1, most + 1, -least, 0, SIXTY, SIXTY_ONE, -SIXTY, -SIXTY_ONE):
                self.refuses(InvalidNumber, many, make, many)

    def test_wrong_values(self):
        for make, (least, most) in RANGES.items():
            for value in values_but_numbers(least, most):
                self.refuses(InvalidNumber, value, make, value)


class MadeTest(Case):
    def names(self, word, many):
        return tuple(word + letter for letter in LETTERS[:many])

    def test_cell(self):
        for many in range(1, 7):
            kind = made.cell_kind(many)
            self.same((kind.size, kind.names), (many, self.names("put", many)))
            for value, state in itertools.product(range(many), range(many)):
                self.same(kind.after(state, kind.names[value]), (value, 0))
        self.same(made.cell_kind(2).operations, {"puta": ((0, 0), (0, 0)), "putb": ((1, 0), (1, 0))})

    def test_flag(self):
        self.same(made.flag_kind().operations, {"set": ((1, 0), (1, 1))})

    def test_adder(self):
        for many in range(2, 13):
            kind = made.adder_kind(many)
            self.same((kind.size, kind.names), (many, ("add",)))
            for state in range(many - 1):
                self.same(kind.after(state, "add"), (state + 1, state))
            self.same(kind.after(many - 1, "add"), (0, many - 1))
        self.same(made.adder_kind(3).operations, {"add": ((1, 0), (2, 1), (0, 2))})

    def test_swap(self):
        for many in range(2, 7):
            kind = made.swap_kind(many)
            self.same((kind.size, kind.names), (many, self.names("swap", many)))
            for value, state in itertools.product(range(many), range(many)):
                self.same(kind.after(state, kind.names[value]), (value, state))
        self.same(made.swap_kind(2).operations, {"swapa": ((0, 0), (0, 1)), "swapb": ((1, 0), (1, 1))})

    def test_slot(self):
        for many in range(1, 7):
            kind = made.slot_kind(many)
            self.same((kind.size, kind.names), (many + 1, self.names("set", many)))
            for value in range(many):
                self.same(kind.after(0, kind.names[value]), (value + 1, value + 1))
                for state in range(1, many + 1):
                    self.same(kind.after(state, kind.names[value]), (state, state))
        self.same(made.slot_kind(1).operations, {"seta": ((1, 1), (1, 1))})

    def test_fading(self):
        for many in range(1, 6):
            kind = made.fading_kind(many)
            forgotten = 2 * many + 1
            self.same((kind.size, kind.names), (2 * many + 2, ("seta", "setb")))
            self.same((kind.after(0, "seta"), kind.after(0, "setb")), ((1, 0), (many + 1, 0)))
            for first, name in itertools.product((1, many + 1), kind.names):
                for state in range(first, first + many - 1):
                    self.same(kind.after(state, name), (state + 1, 0))
                self.same(kind.after(first + many - 1, name), (forgotten, 0))
                self.same(kind.after(forgotten, name), (forgotten, 0))
        self.same(made.fading_kind(1).operations, {
            "seta": ((1, 0), (3, 0), (3, 0), (3, 0)), "setb": ((2, 0), (3, 0), (3, 0), (3, 0)),
        })
        self.same(made.fading_kind(2).operations["seta"], ((1, 0), (2, 0), (5, 0), (4, 0), (5, 0), (5, 0)))

    def test_queue_of_one_letter(self):
        self.same(made.queue_kind(1).operations, {
            "joina": ((1, 0), (1, 0), (2, 0)),
            "joinb": ((2, 0), (1, 0), (2, 0)),
            "leave": ((0, 0), (0, 1), (0, 2)),
        })

    def test_queue_of_two_letters(self):
        self.same(made.queue_kind(2).operations, {
            "joina": ((1, 0), (3, 0), (5, 0), (3, 0), (4, 0), (5, 0), (6, 0)),
            "joinb": ((2, 0), (4, 0), (6, 0), (3, 0), (4, 0), (5, 0), (6, 0)),
            "leave": ((0, 0), (0, 1), (0, 2), (1, 1), (2, 1), (1, 2), (2, 2)),
        })

    def test_highest(self):
        for many in range(2, 7):
            kind = made.highest_kind(many)
            self.same((kind.size, kind.names), (many, self.names("raise", many)))
            for value, state in itertools.product(range(many), range(many)):
                self.same(kind.after(state, kind.names[value]), (max(state, value), 0))
        self.same(made.highest_kind(2).operations, {"raisea": ((0, 0), (1, 0)), "raiseb": ((1, 0), (1, 0))})


if __name__ == "__main__":
    unittest.main()
