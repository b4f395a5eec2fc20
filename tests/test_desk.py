"""A desk: [14.1], stage 14."""

import random
import unittest

from teamtells.base.kinds import Kind, beside, is_name
from teamtells.base.made import adder_kind, cell_kind, fading_kind, flag_kind, queue_kind, slot_kind, swap_kind
from teamtells.desk.desk import MAX_KINDS, MAX_PINS, Desk
from teamtells.errors import (
    InvalidKind, InvalidNumber, InvalidOperation, InvalidWord, NothingToUndo, Refused, TooMany, UnknownName,
)
from teamtells.search.levels import level_of
from tests.cases import SIXTY, Case, shown, values, values_but, values_but_kinds, values_but_numbers, values_but_texts
from tests.systems import CELL, FLAG, SLOT
from tests.walks import near

NAMES = ("a", "b", "flag", "slot", "abcdefgh", "z")
KINDS = [
    FLAG, CELL, SLOT, cell_kind(1), fading_kind(2), fading_kind(3), fading_kind(4), fading_kind(5), adder_kind(3),
    queue_kind(1), swap_kind(2), FLAG.renamed({"set": "take"}), Kind({"stay": ((0, 0),)}), slot_kind(1),
]


def grade_of(kind):
    level = level_of(kind)
    return "endless" if level is None else level


def holds(pin, grades):
    number = {1: 1, 2: 2, 3: 3, 4: 4, "endless": 5}
    if pin[0] == "equal":
        return grades[pin[1]] == grades[pin[2]]
    return number[grades[pin[1]]] >= pin[2] if pin[0] == "least" else number[grades[pin[1]]] <= pin[2]


class Fails(Exception):
    """What a plain record says instead of news: an error, and what it keeps."""


class DeskRecord:
    """What a desk must be, kept plainly by the words of the document."""

    def __init__(self):
        self.kinds, self.pins = {}, ()
        self.past, self.future = [], []

    def grades(self):
        return {name: grade_of(self.kinds[name]) for name in sorted(self.kinds)}

    def copy(self):
        other = DeskRecord()
        other.kinds, other.pins = self.kinds, self.pins
        other.past, other.future = list(self.past), list(self.future)
        return other

    def go(self, kinds, pins):
        for pin in pins:
            for name in pin[1:] if pin[0] == "equal" else pin[1:2]:
                if name not in kinds:
                    raise Fails(InvalidOperation, None)
        if len(kinds) > 8:
            raise Fails(TooMany, 8)
        grades = {name: grade_of(kind) for name, kind in kinds.items()}
        for pin in pins:
            if not holds(pin, grades):
                raise Fails(Refused, pin)
        before = self.grades()
        self.past.append((self.kinds, self.pins))
        self.future = []
        self.kinds, self.pins = kinds, pins
        return self.news(before)

    def news(self, before):
        behind = self.grades()
        names = sorted({*before, *behind})
        return tuple(
            (name, before.get(name, 0), behind.get(name, 0)) for name in names
            if before.get(name, 0) != behind.get(name, 0)
        )

    def word(self, name):
        if not is_name(name):
            raise Fails(InvalidWord, None)

    def known(self, name):
        if name not in self.kinds:
            raise Fails(UnknownName, name)
        return self.kinds[name]

    def enter(self, name, kind):
        self.word(name)
        if not isinstance(kind, Kind):
            raise Fails(InvalidKind, None)
        return self.go({**self.kinds, name: kind}, self.pins)

    def remove(self, name):
        self.known(name)
        return self.go({other: self.kinds[other] for other in self.kinds if other != name}, self.pins)

    def cut_off(self, name, operation):
        kind = self.known(name)
        if operation not in kind.names:
            raise Fails(UnknownName, operation)
        if len(kind.names) == 1:
            raise Fails(InvalidOperation, None)
        return self.go({**self.kinds, name: kind.without(operation)}, self.pins)

    def hush(self, name):
        return self.go({**self.kinds, name: self.known(name).silent()}, self.pins)

    def put_beside(self, name, one, other):
        self.word(name)
        one, other = self.known(one), self.known(other)
        if set(one.names) & set(other.names):
            raise Fails(InvalidOperation, None)
        if one.size * other.size > 12:
            raise Fails(TooMany, 12)
        if len(one) + len(other) > 6:
            raise Fails(TooMany, 6)
        return self.go({**self.kinds, name: beside(one, other)}, self.pins)

    def is_pin(self, pin):
        if pin[0] == "equal":
            return pin[1] != pin[2] and pin[1] in self.kinds and pin[2] in self.kinds
        return pin[0] in ("least", "most") and pin[1] in self.kinds and pin[2] in (1, 2, 3, 4)

    def pin(self, pin):
        if not self.is_pin(pin) or pin in self.pins:
            raise Fails(InvalidOperation, None)
        if len(self.pins) == 8:
            raise Fails(TooMany, 8)
        return self.go(self.kinds, self.pins + (pin,))

    def unpin(self, pin):
        if not self.is_pin(pin) or pin not in self.pins:
            raise Fails(InvalidOperation, None)
        return self.go(self.kinds, tuple(other for other in self.pins if other != pin))

    def moved(self, many, source, target):
        if many > len(source):
            raise Fails(NothingToUndo, many)
        before = self.grades()
        for _ in range(many):
            target.append((self.kinds, self.pins))
            self.kinds, self.pins = source.pop()
        return self.news(before)

    def undo(self, many):
        return self.moved(many, self.past, self.future)

    def redo(self, many):
        return self.moved(many, self.future, self.past)


def some_name(chance, record):
    """A name, most often one that is there."""
    there = sorted(record.kinds)
    return chance.choice(there if there and chance.random() < 0.7 else NAMES + ("ill", "Ill"))


def some_pin(chance, record):
    one, other = some_name(chance, record), some_name(chance, record)
    if chance.random() < 0.3:
        return "equal", one, other
    return chance.choice(("least", "most")), one, chance.randint(0, 5)


def some_change(chance, record):
    """A change in the form that `trial` takes."""
    pins = [some_pin(chance, record) for _ in range(3)]
    name, one, other = (some_name(chance, record) for _ in range(3))
    operation = chance.choice(("set", "seta", "setb", "puta", "add", "take"))
    return chance.choice((
        ("enter", name, chance.choice(KINDS)), ("enter", name, chance.choice(KINDS)), ("enter", name, None),
        ("remove", name), ("cut_off", name, operation), ("hush", name), ("hush", name),
        ("put_beside", name, one, other), ("put_beside", name, one, other),
        ("enter", chance.choice(NAMES), chance.choice(KINDS)), *(("pin", pin) for pin in pins),
        ("unpin", chance.choice([pins[0], *record.pins])),
    ))


class RecordTest(Case):
    def agrees(self, desk, record):
        self.same(desk.kinds, {name: record.kinds[name] for name in sorted(record.kinds)})
        self.same(desk.grades, record.grades())
        self.same(desk.pins, record.pins)
        self.same((len(desk), list(desk)), (len(record.kinds), sorted(record.kinds)))
        self.same(str(desk), f"desk of {len(record.kinds)} kinds, {len(record.pins)} pins")
        for name in NAMES:
            self.same((name in desk), name in record.kinds)

    def told(self, record, call, given, desk_call, keywords):
        """The desk returns what the record does, or raises what it says; whether it returned."""
        try:
            wanted = call(*given, *keywords.values())
        except Fails as fails:
            error, kept = fails.args
            self.refuses(error, kept, desk_call, *given, **keywords)
            return error.__name__
        self.same(desk_call(*given, **keywords), wanted)
        return "news" if wanted else "no news"

    def deed(self, chance, desk, record):
        number = chance.random()
        if number < 0.15:
            many = chance.choice([0, 1, 1, 1, 2, 3, len(record.past) // 2, len(record.past) + 1])
            return "undo", self.told(record, record.undo, (), desk.undo, {"many": many})
        if number < 0.3:
            many = chance.choice([0, 1, 1, 2, len(record.future), len(record.future) + 1])
            return "redo", self.told(record, record.redo, (), desk.redo, {"many": many})
        word, *given = some_change(chance, record)
        return word, self.told(record, getattr(record, word), given, getattr(desk, word), {})

    def trial(self, chance, desk, record):
        changes = [some_change(chance, record) for _ in range(chance.randint(0, 4))]
        other, wanted = record.copy(), []
        try:
            for word, *given in changes:
                wanted.append(getattr(other, word)(*given))
        except Fails as fails:
            self.refuses(*fails.args, desk.trial, *changes)
            return
        self.same(desk.trial(*changes), tuple(wanted))

    def test_beside_a_plain_record(self):
        chance = random.Random(141)
        sorts = set()
        for _ in range(25):
            desk, record, twins = Desk(), DeskRecord(), []
            for _ in range(80):
                sorts.add(self.deed(chance, desk, record))
                self.agrees(desk, record)
                if chance.random() < 0.2:
                    self.trial(chance, desk, record)
                    self.agrees(desk, record)
                if chance.random() < 0.03:
                    twins.append((desk.twin(), record.copy()))
            for twin, other in twins:
                self.agrees(twin, other)
                for _ in range(5):
                    self.deed(chance, twin, other)
                    self.agrees(twin, other)
            self.agrees(desk, record)
        for sort in (
            ("enter", "news"), ("enter", "no news"), ("enter", "Refused"), ("enter", "InvalidWord"),
            ("enter", "InvalidKind"), ("remove", "news"), ("remove", "UnknownName"), ("remove", "InvalidOperation"),
            ("cut_off", "news"), ("cut_off", "UnknownName"), ("cut_off", "InvalidOperation"), ("cut_off", "Refused"),
            ("hush", "news"), ("hush", "no news"), ("hush", "Refused"), ("put_beside", "news"),
            ("put_beside", "InvalidOperation"), ("put_beside", "TooMany"), ("pin", "no news"), ("pin", "Refused"),
            ("pin", "InvalidOperation"), ("unpin", "no news"), ("unpin", "InvalidOperation"), ("undo", "news"),
            ("undo", "NothingToUndo"), ("redo", "news"), ("redo", "no news"), ("redo", "NothingToUndo"),
        ):
            self.assertIn(sort, sorts)


def desk_with(**kinds):
    desk = Desk()
    for name, kind in kinds.items():
        desk.enter(name, kind)
    return desk


class NewsTest(Case):
    def test_just_the_names_whose_grade_is_another_one(self):
        desk = Desk()
        self.same([desk.enter("slot", SLOT), desk.enter("flag", FLAG), desk.enter("flag", adder_kind(3))],
                  [(("slot", 0, "endless"),), (("flag", 0, 2),), ()])
        self.same([desk.enter("flag", CELL), desk.hush("slot"), desk.remove("flag")],
                  [(("flag", 2, 1),), (), (("flag", 1, 0),)])
        self.same(desk.undo(many=6), (("slot", "endless", 0),))
        self.same(desk.redo(many=4), (("flag", 0, 1), ("slot", 0, "endless")))
        self.same([desk.undo(many=4), desk.redo(many=6)], [(("flag", 1, 0), ("slot", "endless", 0)),
                                                            (("slot", 0, "endless"),)])

    def test_what_each_change_makes(self):
        desk = desk_with(slot=SLOT, fade=fading_kind(3))
        self.same(desk.cut_off("slot", "setb"), (("slot", "endless", 1),))
        self.same((desk["slot"], desk.kinds["fade"]), (SLOT.without("setb"), fading_kind(3)))
        self.same(desk.hush("fade"), ())
        self.same(desk.enter("flag", FLAG), (("flag", 0, 2),))
        self.same(desk.put_beside("pair", "slot", "flag"), (("pair", 0, 2),))
        self.same(desk["pair"], beside(SLOT.without("setb"), FLAG))
        self.same(desk.put_beside("flag", "flag", "slot"), ())
        self.same((desk["flag"], desk.grades), (
            beside(FLAG, SLOT.without("setb")), {"fade": 3, "flag": 2, "pair": 2, "slot": 1},
        ))

    def test_grades(self):
        fading = [(fading_kind(many), min(many, 4)) for many in (2, 3, 4, 5)]
        for kind, grade in [*fading, (SLOT, "endless"), (CELL, 1)]:
            desk = Desk()
            self.same((desk.enter("one", kind), desk.grades), ((("one", 0, grade),), {"one": grade}))

    def test_names_of_eight_and_nine_letters(self):
        desk = Desk()
        self.same(desk.enter("abcdefgh", FLAG), (("abcdefgh", 0, 2),))
        self.refuses(InvalidWord, None, desk.enter, "abcdefghi", FLAG)
        self.refuses(UnknownName, "abcdefghi", desk.remove, "abcdefghi")
        self.same(list(desk), ["abcdefgh"])


class PinTest(Case):
    def test_least_and_most(self):
        grades = {"one": CELL, "two": FLAG, "three": fading_kind(3), "four": fading_kind(4), "more": fading_kind(5),
                  "endless": SLOT}
        number = {"one": 1, "two": 2, "three": 3, "four": 4, "more": 4, "endless": 5}
        for name, kind in grades.items():
            for bound in (1, 2, 3, 4):
                for word, good in (("least", number[name] >= bound), ("most", number[name] <= bound)):
                    desk, pin = desk_with(kind=kind), (word, "kind", bound)
                    if good:
                        self.same((desk.pin(pin), desk.pins), ((), (pin,)))
                    else:
                        self.refuses(Refused, pin, desk.pin, pin)
                        self.same(desk.pins, ())

    def test_equal(self):
        desk = desk_with(a=FLAG, b=adder_kind(3), c=SLOT, d=fading_kind(4), e=fading_kind(5))
        self.same([desk.pin(("equal", "a", "b")), desk.pin(("equal", "b", "a")), desk.pin(("equal", "e", "d"))],
                  [(), (), ()])
        self.refuses(Refused, ("equal", "d", "c"), desk.pin, ("equal", "d", "c"))
        self.refuses(InvalidOperation, None, desk.pin, ("equal", "a", "a"))
        self.refuses(Refused, ("equal", "a", "b"), desk.enter, "b", CELL)
        self.same(desk.enter("b", swap_kind(2)), ())

    def test_the_first_pin_that_would_not_hold(self):
        pins = [("least", "a", 1), ("least", "a", 2), ("most", "a", 3), ("most", "a", 2), ("equal", "a", "b")]
        for order in (pins, pins[::-1], pins[2:] + pins[:2]):
            desk = desk_with(a=FLAG, b=FLAG)
            for pin in order:
                desk.pin(pin)
            for kind, number in ((CELL, 1), (SLOT, 5), (fading_kind(3), 3)):
                wrong = [pin for pin in order if pin[0] == "equal" or pin[0] == "least" and number < pin[2]
                         or pin[0] == "most" and number > pin[2]]
                self.refuses(Refused, wrong[0], desk.enter, "a", kind)
            before = shown(desk)
            self.refuses(InvalidOperation, None, desk.remove, "a")
            self.refuses(InvalidOperation, None, desk.remove, "b")
            self.assertEqual(shown(desk), before)

    def test_nine_kinds(self):
        self.same((MAX_KINDS, MAX_PINS), (8, 8))
        desk = desk_with(**{name: CELL for name in "abcdefg"}, h=FLAG)
        before = shown(desk)
        self.refuses(TooMany, 8, desk.enter, "i", FLAG)
        self.refuses(TooMany, 8, desk.put_beside, "i", "a", "h")
        self.assertEqual(shown(desk), before)
        self.refuses(NothingToUndo, 9, desk.undo, many=9)
        self.same((desk.put_beside("a", "a", "h"), len(desk)), ((("a", 1, 2),), 8))
        desk.remove("b")
        self.same((desk.enter("i", SLOT), len(desk)), ((("i", 0, "endless"),), 8))

    def test_nine_pins(self):
        desk = desk_with(a=FLAG, b=FLAG)
        pins = [("least", "a", 1), ("least", "a", 2), ("most", "a", 2), ("most", "a", 3), ("most", "a", 4),
                ("equal", "a", "b"), ("least", "b", 1), ("least", "b", 2)]
        for pin in pins:
            self.same(desk.pin(pin), ())
        before = shown(desk)
        self.refuses(TooMany, 8, desk.pin, ("equal", "b", "a"))
        # That it would not hold comes behind that there are too many; that it is there ahead of it.
        self.refuses(TooMany, 8, desk.pin, ("least", "b", 3))
        self.refuses(InvalidOperation, None, desk.pin, pins[3])
        self.refuses(InvalidOperation, None, desk.pin, ("least", "c", 1))
        self.assertEqual(shown(desk), before)
        self.same((desk.unpin(pins[5]), desk.pin(("equal", "b", "a")), desk.pins[-2:]),
                  ((), (), (pins[7], ("equal", "b", "a"))))

    def test_numbers_of_pins(self):
        desk = desk_with(a=fading_kind(4), b=FLAG)
        for word, number in (("least", 0), ("least", 5), ("most", 0), ("most", 5), ("least", True), ("most", None)):
            self.refuses(InvalidOperation, None, desk.pin, (word, "a", number))
            self.refuses(InvalidOperation, None, desk.unpin, (word, "a", number))
        self.same([desk.pin(("least", "a", number)) for number in (1, 4)], [(), ()])
        for number in values_but_numbers(1, 4):
            self.refuses(InvalidOperation, None, desk.pin, ("most", "a", number))
            self.refuses(InvalidOperation, None, desk.unpin, ("least", "a", number))

    def test_what_is_no_pin(self):
        desk = desk_with(set=FLAG, a=CELL)
        pin = ("least", "set", 1)
        desk.pin(pin)
        before = shown(desk)
        for value in values() + near(pin) + near(("equal", "set", "a")) + [list(pin), pin + (0,), ("Least", "set", 1)]:
            if shown(value) != shown(pin) and shown(value) not in (shown(("least", "set", 2)),):
                self.refuses(InvalidOperation, None, desk.unpin, value)
            if not self.is_pin(value):
                self.refuses(InvalidOperation, None, desk.pin, value)
            for given in (("least", value, 1), ("most", value, 4), ("equal", value, "a"), ("equal", "a", value)):
                if shown(value) not in (shown("set"), shown("a")):
                    self.refuses(InvalidOperation, None, desk.pin, given)
                    self.refuses(InvalidOperation, None, desk.unpin, given)
            if shown(value) not in [shown(word) for word in ("least", "most", "equal")]:
                self.refuses(InvalidOperation, None, desk.pin, (value, "a", 1))
                self.refuses(InvalidOperation, None, desk.pin, (value, "a", "set"))
        self.assertEqual(shown(desk), before)

    def is_pin(self, value):
        if not isinstance(value, tuple) or len(value) != 3 or shown(value[0]) == shown(value[1]):
            return False
        if value[0] == "equal":
            return {value[1], value[2]} == {"a", "set"}
        return value[0] in ("least", "most") and value[1] in ("a", "set") and value[2].__class__ is int

    def test_pins_are_changes(self):
        desk = desk_with(a=FLAG)
        desk.pin(("least", "a", 2))
        self.refuses(Refused, ("least", "a", 2), desk.hush, "a")
        self.same([desk.undo(), desk.pins, desk.hush("a")], [(), (), (("a", 2, 1),)])
        self.refuses(NothingToUndo, 1, desk.redo)
        self.same([desk.undo(), desk.redo(), desk.undo(), desk.pin(("most", "a", 2)), desk.unpin(("most", "a", 2))],
                  [(("a", 1, 2),), (("a", 2, 1),), (("a", 1, 2),), (), ()])
        self.same((desk.undo(), desk.pins, desk.undo(), desk.pins), ((), (("most", "a", 2),), (), ()))


class HistoryTest(Case):
    def test_how_many(self):
        desk = desk_with(a=FLAG, b=CELL, c=SLOT)
        for many in values_but_numbers(0, SIXTY):
            self.refuses(InvalidNumber, many, desk.undo, many=many)
            self.refuses(InvalidNumber, many, desk.redo, many=many)
        self.refuses(NothingToUndo, 4, desk.undo, many=4)
        self.refuses(NothingToUndo, 1, desk.redo)
        self.same([desk.undo(many=0), desk.redo(many=0), desk.undo(many=3)],
                  [(), (), (("a", 2, 0), ("b", 1, 0), ("c", "endless", 0))])
        self.refuses(NothingToUndo, 1, desk.undo)
        self.refuses(NothingToUndo, 4, desk.redo, many=4)
        self.refuses(NothingToUndo, SIXTY, desk.redo, many=SIXTY)
        self.same([desk.redo(many=3), len(desk)], [(("a", 0, 2), ("b", 0, 1), ("c", 0, "endless")), 3])
        for call in (desk.undo, desk.redo):
            with self.assertRaises(TypeError):
                call(1)

    def test_other_changes_end_what_can_be_made_again(self):
        desk = desk_with(a=FLAG, b=CELL)
        desk.undo()
        self.refuses(UnknownName, "b", desk.hush, "b")
        self.refuses(NothingToUndo, 2, desk.undo, many=2)
        desk.trial(("remove", "a"))
        desk.undo(many=0)
        self.same([desk.redo(), desk.undo()], [(("b", 0, 1),), (("b", 1, 0),)])
        # A change that changes nothing is one, too.
        self.same(desk.enter("a", FLAG), ())
        self.refuses(NothingToUndo, 1, desk.redo)
        self.same([desk.undo(), desk.grades, desk.redo(), desk.undo(many=2), desk.grades],
                  [(), {"a": 2}, (), (("a", 2, 0),), {}])


class TrialTest(Case):
    def test_what_is_returned(self):
        desk = desk_with(a=FLAG)
        before = shown(desk)
        self.same(desk.trial(), ())
        self.same(
            desk.trial(
                ("enter", "b", SLOT), ("put_beside", "c", "a", "b"), ("cut_off", "b", "seta"), ("hush", "a"),
                ("pin", ("equal", "a", "b")), ("unpin", ("equal", "a", "b")), ("remove", "c"),
            ),
            ((("b", 0, "endless"),), (("c", 0, "endless"),), (("b", "endless", 1),), (("a", 2, 1),), (), (),
             (("c", "endless", 0),)),
        )
        self.assertEqual(shown(desk), before)
        self.refuses(NothingToUndo, 2, desk.undo, many=2)
        self.refuses(NothingToUndo, 1, desk.redo)

    def test_forms_come_first(self):
        desk = desk_with(a=FLAG)
        wrong = [
            (), ("enter",), ("enter", "b"), ("enter", "b", FLAG, 0), ("remove",), ("remove", "a", "a"), ("undo",),
            ("redo",), ("undo", 1), ("trial",), ("twin",), ("Enter", "b", FLAG), ["remove", "a"], "remove", None, 0,
            ("cut_off", "a"), ("hush",), ("put_beside", "a", "b"), ("pin",), ("pin", "least", "a", 1), ("unpin",),
            (("remove",), "a"), (None, "a"), (["remove"], "a"), ({}, "a"), ("__len__",), ("done", ("remove", "a")),
        ]
        before = shown(desk)
        for change in wrong:
            self.refuses(InvalidOperation, None, desk.trial, change)
            self.refuses(InvalidOperation, None, desk.trial, ("remove", "nobody"), change)
            self.refuses(InvalidOperation, None, desk.trial, change, ("remove", "nobody"))
            self.refuses(InvalidOperation, None, desk.trial, ("hush", "a"), change)
        for value in values():
            if isinstance(value, tuple) and value[:1] == ("enter",):
                self.refuses(InvalidKind, None, desk.trial, value)
            else:
                self.refuses(InvalidOperation, None, desk.trial, value)
            self.refuses(InvalidOperation, None, desk.trial, (value, "a"))
        self.assertEqual(shown(desk), before)

    def test_errors_of_the_first_one_that_fails(self):
        desk = desk_with(a=FLAG)
        desk.pin(("least", "a", 2))
        before = shown(desk)
        self.refuses(UnknownName, "b", desk.trial, ("remove", "b"), ("hush", "a"))
        self.refuses(Refused, ("least", "a", 2), desk.trial, ("hush", "a"), ("remove", "b"))
        self.refuses(InvalidWord, None, desk.trial, ("enter", "b", FLAG), ("enter", "B", FLAG), ("remove", "c"))
        self.refuses(InvalidKind, None, desk.trial, ("enter", "b", None), ("enter", "B", FLAG))
        self.refuses(UnknownName, "b", desk.trial, ("enter", "b", FLAG), ("remove", "b"), ("remove", "b"))
        self.refuses(TooMany, 8, desk.trial, *(("enter", name, CELL) for name in "bcdefghi"))
        self.assertEqual(shown(desk), before)
        with self.assertRaises(TypeError):
            desk.trial(change=("remove", "a"))


class RefusedTest(Case):
    def test_wrong_arguments(self):
        desk = desk_with(set=FLAG, a=CELL)
        before = shown(desk)
        names = ("a", "z", "add", "set", "sets", "abcdefgh")
        self.refuses_each(desk.enter, ("a", FLAG), (
            (InvalidWord, values_but_texts(*names)), (InvalidKind, values_but_kinds()),
        ))
        there = (UnknownName, values_but("a", "set"))
        self.refuses_each(desk.put_beside, ("z", "a", "set"), (
            (InvalidWord, values_but_texts(*names)), there, there,
        ))
        for call in (desk.remove, desk.hush, desk.__getitem__):
            self.refuses_each(call, ("a",), (there,))
        self.refuses_each(desk.cut_off, ("a", "puta"), (there, (UnknownName, values_but("puta", "putb"))))
        for value in there[1]:
            self.same(value in desk, False)
        self.assertEqual(shown(desk), before)
        self.refuses(NothingToUndo, 3, desk.undo, many=3)

    def test_what_comes_behind(self):
        eight = desk_with(**{name: CELL for name in "abcdefg"}, flag=FLAG)
        # What makes the kind comes ahead of the number of names, and this ahead of pins.
        self.refuses(InvalidOperation, None, eight.put_beside, "new", "a", "b")
        self.refuses(InvalidOperation, None, eight.cut_off, "flag", "set")
        self.refuses(UnknownName, "puta", eight.cut_off, "flag", "puta")
        self.refuses(InvalidKind, None, eight.enter, "new", None)
        self.refuses(TooMany, 8, eight.put_beside, "new", "a", "flag")
        eight.enter("b", queue_kind(2))
        self.refuses(TooMany, 12, eight.put_beside, "new", "b", "flag")
        self.same(eight.put_beside("a", "a", "flag"), (("a", 1, 2),))
        eight.enter("b", Kind({name: ((0, 0),) for name in "uvwxyz"}))
        self.refuses(TooMany, 6, eight.put_beside, "new", "b", "flag")
        self.same(eight.undo(many=3), (("a", 2, 1),))

    def test_operations_that_are_taken_away(self):
        desk = desk_with(a=CELL)
        desk.pin(("most", "a", 1))
        self.same((desk.cut_off("a", "puta"), desk["a"]), ((), CELL.without("puta")))
        self.refuses(InvalidOperation, None, desk.cut_off, "a", "putb")
        self.refuses(UnknownName, "puta", desk.cut_off, "a", "puta")

    def test_equal_ones(self):
        one, other = desk_with(a=FLAG, b=CELL), desk_with(b=cell_kind(2), a=SLOT)
        self.assertIs(one == other, False)
        other.enter("a", flag_kind())
        self.assertIs(one == other, True)
        one.pin(("least", "a", 1))
        one.pin(("least", "a", 2))
        other.pin(("least", "a", 2))
        self.assertIs(one == other, False)
        other.pin(("least", "a", 1))
        self.assertIs(one == other, False)
        other.undo(many=2)
        other.pin(("least", "a", 1))
        other.pin(("least", "a", 2))
        self.assertIs(one == other, True)
        self.assertIs(one != other, False)
        for value in values() + [one.kinds, Desk(), desk_with(a=FLAG), desk_with(a=FLAG, b=CELL)]:
            self.assertIs(one == value, False)
            self.assertIs(one != value, True)
        self.same((Desk() == Desk(), str(Desk())), (True, "desk of 0 kinds, 0 pins"))


class SharingTest(Case):
    def test_what_is_returned_can_be_changed(self):
        desk = desk_with(b=FLAG, a=SLOT)
        before = shown(desk)
        desk.kinds.clear()
        desk.grades["a"] = 7
        desk.kinds["a"].operations.clear()
        desk["a"].operations.clear()
        names = list(desk)
        names.clear()
        self.assertEqual(shown(desk), before)
        self.same((list(desk.kinds), list(desk.grades), list(desk)), (["a", "b"],) * 3)
        kept = (desk.kinds, desk.grades, desk.pins)
        desk.remove("a")
        desk.pin(("least", "b", 1))
        self.same((list(kept[0]), kept[1], kept[2]), (["a", "b"], {"a": "endless", "b": 2}, ()))

    def test_a_kind_that_was_passed(self):
        table = {"set": ((1, 0), (1, 1))}
        kind = Kind(table)
        desk = desk_with(a=kind)
        table.clear()
        self.same((desk["a"], desk.enter("b", desk["a"])), (FLAG, (("b", 0, 2),)))

    def test_twins_have_equal_histories(self):
        desk = desk_with(a=FLAG, b=SLOT)
        desk.undo()
        twin = desk.twin()
        self.assertIs(twin == desk, True)
        self.same([twin.redo(), desk.grades, twin.undo(many=2), desk.redo()],
                  [(("b", 0, "endless"),), {"a": 2}, (("a", 2, 0), ("b", "endless", 0)), (("b", 0, "endless"),)])
        self.same((len(twin), len(desk)), (0, 2))
        twin.enter("c", CELL)
        self.refuses(NothingToUndo, 1, twin.redo)
        self.same((desk.undo(many=2), list(twin)), ((("a", 2, 0), ("b", "endless", 0)), ["c"]))

    def test_iterated_while_it_is_changed(self):
        desk = desk_with(a=FLAG, b=SLOT, c=CELL)
        met = []
        for name in desk:
            met.append(name)
            desk.remove(name)
        self.same((met, len(desk)), (["a", "b", "c"], 0))


if __name__ == "__main__":
    unittest.main()
