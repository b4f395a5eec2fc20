"""Levels of kinds: [2.1], [6.1] to [6.3], stage 6."""

import itertools
import unittest

from teamtells.base.kinds import Kind, beside, image_of
from teamtells.base.made import (
    adder_kind, cell_kind, fading_kind, flag_kind, highest_kind, queue_kind, slot_kind, swap_kind,
)
from teamtells.errors import InvalidKind, InvalidNumber, InvalidOperation, TooMany, UnknownName
from teamtells.plans.plans import Plan
from teamtells.plans.telling import tells
from teamtells.search.found import candidates, count_candidates
from teamtells.search.levels import (
    endless_confusion, endless_plans, is_endless, is_endless_confusion, is_level_paper, level_of, level_paper,
)
from tests.cases import Case, shown, values, values_but_kinds, values_but_numbers, values_but_texts
from tests.walks import Walk, confusions, near, normal_plans, some_kinds

FLAG = flag_kind()
SLOT = slot_kind(2)
SMALL = [kind for kind in some_kinds(21, 60) if kind.size * len(kind) <= 8]
WAIT = ((0, 0), (1, 0), (2, 0), (3, 0), (4, 0), (5, 0), (6, 0), (7, 0), (8, 0), (9, 0), (10, 0), (11, 0))


def words(most):
    """All words of at most so many letters."""
    found = []
    for many in range(1, most + 1):
        for place in range(many):
            found.append("o" * place + "O" + "o" * (many - place - 1))
            found.append("o" * place + "P" + "o" * (many - place - 1))
        for place, other in itertools.permutations(range(many), 2):
            letters = ["o"] * many
            letters[place], letters[other] = "O", "p"
            found.append("".join(letters))
    return found


def sight(kind, start, one, other, word):
    """The capital, and the answer and the state that its thread sees behind a word."""
    state = start
    found = None
    for letter in word:
        state, answer = kind.operations[one if letter in "oO" else other][state]
        if letter.isupper():
            found = (letter, answer)
    return found, state


def sights(kind, triple):
    """The sights behind the words of at most 3 * size + 2 letters that team 0, and that team 1 began."""
    sides = (set(), set())
    for word in words(3 * kind.size + 2):
        sides["pP".find(word[0]) >= 0].add(sight(kind, *triple, word))
    return sides


def triples(kind):
    return list(itertools.product(range(kind.size), kind.names, kind.names))


def plain_endless_plans(kind):
    found = []
    for triple in triples(kind):
        one, other = sights(kind, triple)
        if not one & other:
            found.append(triple)
    return tuple(found)


def waiting_kind(many, more):
    """A fading kind for so many times with so many operations that do nothing."""
    kind = fading_kind(many)
    for name in ("w", "x", "y", "z")[:more]:
        kind = kind.with_operation(name, WAIT[:kind.size])
    return kind


class EndlessTest(Case):
    def test_endless_plans(self):
        self.assertGreater(len(SMALL), 20)
        for kind in SMALL:
            found = plain_endless_plans(kind)
            self.same(endless_plans(kind), found)
            self.same(is_endless(kind), found != ())

    def test_endless_plans_tell_for_all_numbers(self):
        for kind in SMALL:
            found = endless_plans(kind)
            for start, one, other in triples(kind):
                telling = [tells(Plan(kind, start, (one,) * many, (other,))) for many in range(1, 6)]
                if (start, one, other) in found:
                    self.same(telling, [True] * 5)
                elif kind.size <= 2:
                    self.same(telling[-1], False)

    def test_kinds_with_the_same_operation_in_both_teams(self):
        self.same(endless_plans(FLAG), ())
        self.same(endless_plans(SLOT), ((0, "seta", "setb"), (0, "setb", "seta")))
        # The answer tells, and no state: the same operation in both teams is never endless here.
        self.same([triple for triple in endless_plans(slot_kind(3)) if triple[1] == triple[2]], [])
        self.same(endless_plans(queue_kind(1))[0][0], 0)

    def test_the_other_thread_does_its_operation_once(self):
        # If `b` came twice, nobody could tell who was first.
        kind = Kind({"a": ((1, 0), (1, 0), (2, 0)), "b": ((2, 0), (1, 0), (1, 0))})
        self.same(endless_plans(kind), ((0, "a", "b"),))
        self.same((plain_endless_plans(kind), level_of(kind)), (((0, "a", "b"),), None))
        words = endless_confusion(kind, 0, "b", "a")
        self.same(is_endless_confusion(kind, 0, "b", "a", words), True)

    def test_the_last_state_can_be_a_start(self):
        kind = SLOT.turned((2, 0, 1))
        self.same(endless_plans(kind), ((2, "seta", "setb"), (2, "setb", "seta")))
        self.same(is_level_paper(kind, ("endless", (2, "seta", "setb"))), True)
        self.same(is_level_paper(kind, ("endless", (3, "seta", "setb"))), False)

    def test_endless_confusions(self):
        for kind in SMALL:
            endless = endless_plans(kind)
            for triple in triples(kind):
                if triple in endless:
                    self.refuses(InvalidOperation, None, endless_confusion, kind, *triple)
                else:
                    one, other = endless_confusion(kind, *triple)
                    possible = words(3 * kind.size + 2)
                    self.assertIn(one, possible)
                    self.assertIn(other, possible)
                    self.same((one[0] in "oO", other[0] in "pP"), (True, True))
                    self.same(sight(kind, *triple, one), sight(kind, *triple, other))
                    self.same(is_endless_confusion(kind, *triple, (one, other)), True)

    def test_greater_kinds(self):
        for kind in (cell_kind(6), swap_kind(6), adder_kind(12), highest_kind(6), fading_kind(5)):
            self.same(is_endless(kind), False)
            for triple in triples(kind):
                one, other = endless_confusion(kind, *triple)
                self.assertLessEqual(max(len(one), len(other)), 3 * kind.size + 2)
                self.same(is_endless_confusion(kind, *triple, (one, other)), True)
                self.same(sight(kind, *triple, one), sight(kind, *triple, other))

    def test_which_values_are_endless_confusions(self):
        possible = words(4)
        for kind in (FLAG, cell_kind(1), SLOT, fading_kind(1), adder_kind(2)):
            for triple in triples(kind)[:6]:
                sides = {word: sight(kind, *triple, word) for word in possible}
                for one, other in itertools.product(possible, repeat=2):
                    good = one[0] in "oO" and other[0] in "pP" and sides[one] == sides[other]
                    self.same(is_endless_confusion(kind, *triple, (one, other)), good)

    def test_values_near_endless_confusions(self):
        right = ("oO", "pO")
        self.same(is_endless_confusion(FLAG, 0, "set", "set", right), True)
        wrong = (
            ["oO", "pO"], ("oO",), ("oO", "pO", ""), ("oO", ["pO"]), ("pO", "oO"), ("oo", "po"), ("OO", "pO"),
            ("oOp", "pOp"), ("oO", "ppO"), ("oO", "oO"), ("o0", "pO"), ("oO ", "pO"), ("", "pO"), ("oO", ""),
            ("oO", "pOP"), ("oO", None), (None, "pO"), ("oP", "pO"), ("O", "pO"), "oOpO", (("o", "O"), ("p", "O")),
            ("oOP", "pO"), ("oQO", "pO"), ("oO\n", "pO"), ("oO", "PO"), {0: "oO", 1: "pO"},
        )
        for value in wrong:
            self.same(is_endless_confusion(FLAG, 0, "set", "set", value), False)
        for value in values():
            self.same(is_endless_confusion(FLAG, 0, "set", "set", value), False)
            self.same(is_endless_confusion(FLAG, 0, "set", "set", ("oO", value)), False)
            self.same(is_endless_confusion(FLAG, 0, "set", "set", (value, "pO")), False)

    def test_all_short_texts_as_words(self):
        # Behind all words of a kind with one state and one answer the same is seen.
        kind = cell_kind(1)
        right = words(4)
        for many in range(5):
            for letters in itertools.product("oOpPx", repeat=many):
                text = "".join(letters)
                for one, other in ((text, "pO"), (text, "P"), ("O", text), ("oP", text)):
                    good = one in right and other in right and one[0] in "oO" and other[0] in "pP"
                    good = good and ("O" in one) == ("O" in other)
                    self.same(is_endless_confusion(kind, 0, "puta", "puta", (one, other)), good)

    def test_lengths_of_words(self):
        def is_right(one, other):
            return is_endless_confusion(FLAG, 0, "set", "set", (one, other))

        self.same(is_right("o" * 199 + "O", "p" + "o" * 198 + "O"), True)
        self.same(is_right("o" * 200 + "O", "p" + "o" * 198 + "O"), False)
        self.same(is_right("o" * 199 + "O", "p" + "o" * 199 + "O"), False)
        self.same(is_right("oO", "p" + "o" * 199 + "O"), False)
        self.same(is_endless_confusion(cell_kind(1), 0, "puta", "puta", ("oP", "P")), True)
        self.same(is_endless_confusion(cell_kind(1), 0, "puta", "puta", ("O", "P")), False)
        self.same(is_endless_confusion(cell_kind(1), 0, "puta", "puta", ("O", "pO")), True)

    def test_wrong_arguments(self):
        kinds = (InvalidKind, values_but_kinds())
        names = (UnknownName, values_but_texts("seta", "setb"))
        starts = (InvalidNumber, values_but_numbers(0, 2))
        self.refuses_each(endless_confusion, (SLOT, 0, "seta", "seta"), (kinds, starts, names, names))
        self.refuses_each(is_endless_confusion, (SLOT, 0, "seta", "seta", None), (kinds, starts, names, names, None))
        for call in (endless_plans, is_endless):
            self.refuses_each(call, (SLOT,), (kinds,))


class LevelTest(Case):
    def test_kinds_that_are_often_used(self):
        for many in range(1, 7):
            self.same(level_of(cell_kind(many)), 1)
        for many in range(2, 7):
            self.same((level_of(highest_kind(many)), level_of(swap_kind(many)), level_of(slot_kind(many))),
                (1, 2, None))
        for many in range(2, 13):
            self.same(level_of(adder_kind(many)), 2)
        self.same((level_of(flag_kind()), level_of(queue_kind(1)), level_of(queue_kind(2))), (2, None, None))
        for many in range(2, 6):
            self.same(level_of(fading_kind(many), most=6), many)

    def test_against_a_plain_search(self):
        for kind in SMALL:
            endless = plain_endless_plans(kind) != ()
            best = 1
            for threads in (2, 3, 4) if len(kind) < 3 else (2, 3):
                if best == threads - 1 and any(Walk(plan).tells for plan in normal_plans(kind, threads)):
                    best = threads
            if len(kind) < 3:
                self.same(level_of(kind), None if endless else best)
            self.same(level_of(kind, most=3), None if endless else min(best, 3))
            self.same(level_of(kind, most=2), None if endless else min(best, 2))

    def test_up_to_how_many(self):
        self.same([level_of(fading_kind(3), most=most) for most in range(2, 7)], [2, 3, 3, 3, 3])
        self.same([level_of(fading_kind(5), most=most) for most in range(2, 7)], [2, 3, 4, 5, 5])
        self.same([level_of(cell_kind(2), most=most) for most in range(2, 7)], [1] * 5)
        self.same([level_of(SLOT, most=most) for most in range(2, 7)], [None] * 5)
        self.same(level_of(fading_kind(5)), 4)
        for value in values_but_numbers(2, 6):
            self.refuses(InvalidNumber, value, level_of, FLAG, most=value)
            self.refuses(InvalidNumber, value, level_of, SLOT, most=value)
            self.refuses(InvalidNumber, value, level_paper, FLAG, most=value)
            self.refuses(InvalidNumber, value, is_level_paper, FLAG, None, most=value)
        with self.assertRaises(TypeError):
            level_of(FLAG, 3)

    def test_wrong_kinds(self):
        for value in values_but_kinds():
            self.refuses(InvalidKind, None, level_of, value)
            self.refuses(InvalidKind, None, level_of, value, most=7)
            self.refuses(InvalidKind, None, level_paper, value, most=None)
            self.refuses(InvalidKind, None, is_level_paper, value, None, most=1)

    def test_too_many_candidates(self):
        great = waiting_kind(5, 4)
        self.same((great.size, len(great), count_candidates(great, 4), count_candidates(great, 5)),
            (12, 6, 6804, 23184))
        self.same([level_of(great, most=most) for most in (2, 3, 4)], [2, 3, 4])
        for most in (5, 6):
            self.refuses(TooMany, 20000, level_of, great, most=most)
            self.refuses(TooMany, 20000, level_paper, great, most=most)
        self.refuses(InvalidNumber, 7, level_of, great, most=7)
        # It stops at the first number of threads without a telling plan, before there are too many.
        low = Kind({name: WAIT for name in ("a", "b", "c", "d", "e", "f")})
        self.same((level_of(low, most=6), level_paper(low, most=6)[:3]), (1, ("just", 1, None)))
        # Endless plans are looked for first.
        tall = slot_kind(6)
        self.same((count_candidates(tall, 6) > 20000, level_of(tall, most=6), level_paper(tall, most=6)[0]),
                  (True, None, "endless"))

    def test_the_judge_has_no_limit(self):
        great = waiting_kind(5, 4)
        plan = Plan(great, 0, ("seta",), ("setb",) * 4)
        found = tuple(endless_confusion(great, *triple) for triple in triples(great))
        self.same(is_level_paper(great, ("at least", plan, found), most=5), True)
        self.same(is_level_paper(great, ("at least", plan, found), most=6), False)
        self.same(is_level_paper(great, ("just", 4, plan.fewer(4), found), most=6), False)


def is_paper(kind, value, most):
    """Whether the value, with tuples and words in the right places, is a paper, by plain walks."""
    if value[0] == "endless":
        return value[1] in plain_endless_plans(kind)
    if value[0] == "at least":
        return Walk(value[1]).tells and len(value[1]) == most
    _, number, plan, found = value
    good = plan is None if number == 1 else len(plan) == number and Walk(plan).tells
    plans = normal_plans(kind, number + 1)
    return good and len(plans) == len(found) and all(one in confusions(plan) for plan, one in zip(plans, found))


class PaperTest(Case):
    def test_papers_that_are_made(self):
        for kind in SMALL:
            for most in (2, 3):
                paper = level_paper(kind, most=most)
                self.same(is_level_paper(kind, paper, most=most), True)
                self.same(is_paper(kind, paper, most), True)
                level = level_of(kind, most=most)
                if level is None:
                    self.same(paper, ("endless", endless_plans(kind)[0]))
                elif level < most:
                    self.same(paper[:2], ("just", level))
                else:
                    self.same(paper[0], "at least")
                    self.same(len(paper[2]), kind.size * len(kind) ** 2)

    def test_four_threads_if_not_told(self):
        paper = level_paper(fading_kind(4))
        self.same((paper[0], len(paper[1]), is_level_paper(fading_kind(4), paper)), ("at least", 4, True))
        self.same(is_level_paper(fading_kind(4), paper, most=3), False)
        self.same(is_level_paper(fading_kind(4), paper, most=5), False)
        self.same(level_paper(fading_kind(4), most=6)[:2], ("just", 4))
        paper = level_paper(fading_kind(3))
        self.same((paper[:2], is_level_paper(fading_kind(3), paper)), (("just", 3), True))
        self.same([is_level_paper(fading_kind(3), paper, most=most) for most in (2, 3, 5, 6)],
            [False, False, True, True])

    def test_each_endless_plan_is_a_paper(self):
        for kind in (SLOT, queue_kind(1), slot_kind(3), FLAG):
            right = endless_plans(kind)
            for triple in triples(kind):
                self.same(is_level_paper(kind, ("endless", triple)), triple in right)
        for triple in near((0, "seta", "setb")):
            good = shown(triple) in [shown(right) for right in endless_plans(SLOT)]
            self.same(is_level_paper(SLOT, ("endless", triple)), good)

    def test_all_plans_and_confusions_are_right(self):
        # Of the flag, 2 threads can agree, and there are two candidates for 3.
        plans = list(candidates(FLAG, 3))
        race = Plan(FLAG, 0, ("set",), ("set",))
        for one in confusions(plans[0])[::3]:
            for other in confusions(plans[1]):
                self.same(is_level_paper(FLAG, ("just", 2, race, (one, other))), True)
        for start in (0, 1):
            plan = Plan(FLAG, start, ("set",), ("set",))
            paper = level_paper(FLAG)
            self.same(is_level_paper(FLAG, (*paper[:2], plan, paper[3])), start == 0)
        fading = fading_kind(2)
        paper = level_paper(fading, most=2)
        for start, one, other in triples(fading):
            plan = Plan(fading, start, (one,), (other,))
            self.same(is_level_paper(fading, ("at least", plan, paper[2]), most=2), Walk(plan).tells)

    def test_values_near_papers(self):
        for kind, most in ((FLAG, 3), (FLAG, 2), (cell_kind(1), 4), (SLOT, 4)):
            paper = level_paper(kind, most=most)
            right = 0
            for value in near(paper):
                found = is_level_paper(kind, value, most=most)
                if found:
                    right += 1
                    self.same((value.__class__, len(value), value[0]), (tuple, len(paper), paper[0]))
                    self.same(is_paper(kind, value, most), True)
            self.assertLess(right, 12)

    def test_wrong_papers(self):
        flag, cell = level_paper(FLAG), level_paper(cell_kind(2))
        endless = level_paper(FLAG, most=2)
        race = flag[2]
        wrong = [
            ("just", 2, None, flag[3]), ("just", 1, race, flag[3]), ("just", True, None, cell[3]),
            ("just", 1, None, flag[3]),
            ("just", 2, race, list(flag[3])), ("just", 2, race, flag[3][:1]), ("just", 2, race, flag[3][::-1]),
            ("just", 2, race.more(0, "set"), flag[3]), ("Just", 2, race, flag[3]), ("just", 2, race), list(flag),
            ("at least", race, endless[2]), ("at least", race, flag[3]), ("endless", (0, "set", "set")), ("endless",),
            ("just", 0, None, ()), ("just", 4, race, flag[3]), ("just", None, race, flag[3]),
            ("just", "2", race, flag[3]),
        ]
        for value in wrong:
            self.same(is_level_paper(FLAG, value), False)
        self.same([is_level_paper(cell_kind(2), value) for value in (cell, ("just", True, None, cell[3]), flag)],
                  [True, False, False])
        for value in (("at least", race, list(endless[2])), ("at least", race, endless[2][:1]),
                      ("at least", race, endless[2] * 2), ("at least", None, endless[2]),
                      ("at least", race, endless[2], ())):
            self.same(is_level_paper(FLAG, value, most=2), False)
        self.same(is_level_paper(FLAG, endless, most=2), True)

    def test_every_value_is_judged(self):
        for value in values():
            self.same(is_level_paper(FLAG, value), False)
            self.same(is_level_paper(SLOT, ("endless", value)), False)
            self.same(is_level_paper(SLOT, ("endless", (0, "seta", value))), shown(value) == "'setb'")
            self.same(is_level_paper(SLOT, ("endless", (value, "seta", "setb"))), shown(value) == "0")
            self.same(is_level_paper(FLAG, ("just", 2, value, ())), False)
            self.same(is_level_paper(FLAG, ("at least", value, ()), most=2), False)

    def test_the_kind_of_the_plan(self):
        paper = level_paper(FLAG)
        other = Plan(FLAG.silent().with_operation("set", ((1, 5), (1, 6))), 0, ("set",), ("set",))
        self.same((tells(other), is_level_paper(FLAG, ("just", 2, other, paper[3]))), (True, False))


class ChangedKindTest(Case):
    def order(self, level):
        """A number for a level: endless is the greatest one."""
        return 9 if level is None else level

    def test_kinds_side_by_side(self):
        kinds = [FLAG, cell_kind(2), SLOT, adder_kind(3), fading_kind(1), fading_kind(2), queue_kind(1),
            highest_kind(2)]
        tried = 0
        for one, other in itertools.product(kinds, repeat=2):
            other = other.renamed({name: "x" + name for name in other.names})
            if one.size * other.size <= 12 and len(one) + len(other) <= 4:
                tried += 1
                levels = [self.order(level_of(kind, most=3)) for kind in (one, other, beside(one, other))]
                self.same(levels[2], max(levels[:2]))
        self.assertGreater(tried, 12)

    def test_images_silent_kinds_and_fewer_operations(self):
        for kind in SMALL:
            level = self.order(level_of(kind, most=3))
            others = [image_of(kind)[0], kind.silent()]
            if len(kind) > 1:
                others.extend(kind.without(name) for name in kind.names)
            for other in others:
                self.assertLessEqual(self.order(level_of(other, most=3)), level)

    def test_kinds_stay_as_they_are(self):
        kind = fading_kind(2)
        before = shown(kind)
        level_paper(kind)
        endless_plans(kind)
        self.same(endless_confusion(kind, 0, "seta", "seta"), endless_confusion(kind, 0, "seta", "seta"))
        self.assertEqual(shown(kind), before)


if __name__ == "__main__":
    unittest.main()
