"""The examples of the document, with their answers as they are written there."""

import unittest

from teamtells.base.kinds import Kind, beside, cut_kind, image_of, is_map
from teamtells.base.made import cell_kind, fading_kind, flag_kind, queue_kind, slot_kind
from tests.cases import Case

FLAG = flag_kind()
ADD = Kind({"add": ((1, 0), (2, 1), (0, 2))})


class ExamplesTest(Case):
    def test_stage_1(self):
        self.same(
            [
                ADD.after(2, "add"), ADD.answers("add"), str(ADD.silent()), image_of(ADD.silent())[1],
                is_map(ADD, ADD, (1, 2, 0)), beside(ADD, FLAG).after(4, "add"),
            ],
            [(0, 2), (0, 1, 2), 'kind of 3 states: add', (0, 0, 0), False, (0, 2)],
        )
        self.same(
            [
                ADD.turned((1, 2, 0)).operations, cut_kind(beside(ADD, FLAG).without("add"), 3)[1],
                len(beside(ADD, FLAG)),
            ],
            [{'add': ((1, 2), (2, 0), (0, 1))}, (3,), 2],
        )

    def test_stage_2(self):
        self.same(
            [
                fading_kind(2).operations["setb"], queue_kind(1).names, queue_kind(2).after(3, "leave"),
                slot_kind(2).after(1, "setb"), cell_kind(3).answers("puta"),
            ],
            [
                ((3, 0), (2, 0), (5, 0), (4, 0), (5, 0), (5, 0)), ('joina', 'joinb', 'leave'), (1, 1), (1, 1), (0,),
            ],
        )


if __name__ == "__main__":
    unittest.main()
