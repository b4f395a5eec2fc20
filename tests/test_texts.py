"""Texts of kinds, plans and programs: [14.2], stage 14."""

import random
import re
import unittest

from teamtells.base.kinds import Kind
from teamtells.base.made import fading_kind, queue_kind
from teamtells.errors import InvalidKind, InvalidPlan, InvalidProgram, ParseError
from teamtells.plans.plans import Plan
from teamtells.systems.programs import Program, System
from teamtells.text.texts import read_kind, read_plan, read_program, write_kind, write_plan, write_program
from tests.cases import Case, shown, values, values_but_kinds, values_but_plans
from tests.systems import ALONE, CELL, CLAIM, FLAG, SLOT, TAKE, some_systems
from tests.walks import parted_plans, some_kinds, some_plans

ADD = Kind({"add": ((1, 0), (2, 1), (0, 2))})
KINDS = some_kinds(151, 60)
PLANS = parted_plans(4) + some_plans(152, KINDS, 3, 2, 6)
PROGRAMS = [program for system in some_systems(153, 60) for program in system.programs]
NUMBER = "(0|[1-9][0-9]*)"
OPERATION = re.compile(f"[a-z]+( {NUMBER}/{NUMBER})+")
STARTS = re.compile(f"{NUMBER} {NUMBER}")
MOVES = f"( {NUMBER}:{NUMBER})+"
ROW = re.compile(f"decide {NUMBER}|read {NUMBER}{MOVES}|do {NUMBER} [a-z]+{MOVES}")
PLAN = re.compile(f"{NUMBER}: [a-z]+(, [a-z]+)* \\| [a-z]+(, [a-z]+)*")
LONG = "9" * 300


def first_wrong(text, forms):
    """The index of the first piece that has not its form, or None; the last form is that of all pieces behind."""
    for at, piece in enumerate(text.split("; ")):
        if not forms[min(at, len(forms) - 1)].fullmatch(piece):
            return at
    return None


def near_texts(text):
    """Texts near a text: a letter changed, left out, doubled, put in; pieces left out, doubled, exchanged."""
    found = []
    for at in range(len(text) + 1):
        for letter in ("", " ", "0", "1", "a", "A", ";", "/", ":", "\n", "|", ",", "-"):
            found.append(text[:at] + letter + text[at:])
            found.append(text[:at] + letter + text[at + 1:])
        found.append(text[:at] + text[at:at + 1] + text[at:])
    for mark in ("; ", " ", ", ", " | ", ": "):
        parts = text.split(mark)
        for at in range(len(parts)):
            found.append(mark.join(parts[:at] + parts[at + 1:]))
            found.append(mark.join(parts[:at] + [parts[at]] + parts[at:]))
            found.append(mark.join(parts[:at] + parts[at:][::-1]))
            found.append(mark.join(parts[:at] + [""] + parts[at:]))
    return found


class TextCase(Case):
    def judged(self, read, write, forms, text, *ahead):
        """The text is read as what has this text, or refused with the index of the first piece, or with None."""
        at = first_wrong(text, forms)
        if at is not None:
            self.refuses(ParseError, at, read, *ahead, text)
            return "form"
        try:
            value = read(*ahead, text)
        except ParseError as error:
            self.assertIsNone(error.at)
            return "value"
        self.same(write(value), text)
        return "read"


class KindTextTest(TextCase):
    def test_texts_that_are_written(self):
        self.same([write_kind(kind) for kind in (FLAG, ADD, CELL, Kind({"b": ((0, 99),), "a": ((0, 0),)}))],
                  ["set 1/0 1/1", "add 1/0 2/1 0/2", "puta 0/0 0/0; putb 1/0 1/0", "a 0/0; b 0/99"])

    def test_what_was_written_is_read(self):
        for kind in KINDS + [fading_kind(5), Kind({"abcdefgh": ((0, 10),) * 12, "z": ((11, 99),) * 12})]:
            self.same(read_kind(write_kind(kind)), kind)

    def test_texts_near(self):
        sorts = set()
        for kind in (FLAG, ADD, CELL, queue_kind(1)):
            for text in near_texts(write_kind(kind)):
                sorts.add(self.judged(read_kind, write_kind, (OPERATION,), text))
        self.same(sorted(sorts), ["form", "read", "value"])

    def test_the_first_piece_that_has_not_the_form(self):
        for text, at in (
            ("", 0), (" ", 0), ("set", 0), ("set ", 0), ("set 1/0 1/1;", 0), ("set 1/0 1/1; ", 1), ("; set 1/0", 0),
            ("set 1/0 1", 0), ("set 1/0/0 1/1", 0), ("set 1/0  1/1", 0), (" set 1/0 1/1", 0), ("set 1/0 1/1 ", 0),
            ("set 01/0 1/1", 0), ("set 1/00 1/1", 0), ("set 1/-1", 0), ("set -1/0", 0), ("Set 1/0", 0), ("s1 1/0", 0),
            ("1/0 1/1", 0), ("set 1/0 1/1;set 1/0", 0), ("a 0/0; b 0/0; c", 2), ("a 0/0; b; c", 1),
            ("a 0/0; b 0/0;  c 0/0", 2), ("a 0/0 ; b 0/0", 0), ("set 1/0\n1/1", 0), ("a 0/0\n; b 0/0", 0),
            ("set 1/0 1/+1", 0), ("set 1/a", 0), ("set/ 1/0", 0), ("a 0/; b", 0), ("a 0/0; b /0", 1),
        ):
            self.refuses(ParseError, at, read_kind, text)

    def test_texts_of_no_kind(self):
        pairs = " ".join(["0/0"] * 12)
        self.same(read_kind(f"add {pairs}").size, 12)
        for text in (
            "set 1/0", "set 2/0 1/1", "set 1/100 1/1", "abcdefghi 0/0", "a 0/0; b 0/0 0/0", "a 0/0; a 0/0",
            "a 0/0; a 0/1", "b 0/0; a 0/0", f"add {pairs} 0/0", "; ".join(f"{name} 0/0" for name in "abcdefg"),
            f"set {LONG}/0", f"set 0/{LONG}", f"{'a' * 1500} 0/0", f"set {'1' * 1900}/0", f"set 0/{'1' * 61}",
        ):
            self.refuses(ParseError, None, read_kind, text)
        self.same(read_kind("; ".join(f"{name} 0/0" for name in "abcdef")).names, tuple("abcdef"))
        self.same(read_kind("abcdefgh 0/99").operations, {"abcdefgh": ((0, 99),)})

    def test_wrong_arguments(self):
        self.refuses_each(write_kind, (FLAG,), ((InvalidKind, values_but_kinds()),))
        for value in values():
            if not isinstance(value, str):
                self.refuses(ParseError, None, read_kind, value)
            else:
                self.judged(read_kind, write_kind, (OPERATION,), value)


class PlanTextTest(TextCase):
    def test_texts_that_are_written(self):
        both = Kind({"set": ((1, 0), (1, 1)), "add": ((1, 0), (0, 1))})
        self.same(write_plan(Plan(both, 0, ("set", "set"), ("add",))), "0: set, set | add")
        self.same(write_plan(Plan(both, 1, ("add",), ("set", "add", "set", "add", "add"))),
                  "1: add | set, add, set, add, add")

    def test_what_was_written_is_read(self):
        for plan in PLANS:
            self.same(read_plan(plan.kind, write_plan(plan)), plan)

    def test_texts_near(self):
        sorts = set()
        for plan in (Plan(FLAG, 0, ("set",), ("set",)), Plan(SLOT, 2, ("setb", "seta"), ("setb",))):
            for text in near_texts(write_plan(plan)):
                if PLAN.fullmatch(text):
                    try:
                        found = read_plan(plan.kind, text)
                    except ParseError as error:
                        self.assertIsNone(error.at)
                        sorts.add("value")
                    else:
                        self.same(write_plan(found), text)
                        sorts.add("read")
                else:
                    self.refuses(ParseError, 0, read_plan, plan.kind, text)
                    sorts.add("form")
        self.same(sorted(sorts), ["form", "read", "value"])

    def test_forms_and_values(self):
        for text in (
            "", "0", "0:", "0: ", "0: set", "0: set |", "0: set | ", "0: | set", "0:  set | set", "00: set | set",
            "0: set | set | set", "0: set,set | set", "0: set , set | set", "0 : set | set", "0: set|set",
            "0: Set | set", "0: set | set;", "0: set | set ", " 0: set | set", "-1: set | set", "0: set | set\n",
            "0: set, | set", "0: 0: set | set", "a: set | set", "0: set | set, ", "0: set; set | set",
        ):
            self.refuses(ParseError, 0, read_plan, FLAG, text)
        for text in ("2: set | set", "0: add | set", "0: set | abcdefghi", "0: set, set, set | set, set, set, set",
                     "12: set | set", f"{LONG}: set | set", f"{'9' * 1900}: set | set", f"0: set | {'b' * 1500}"):
            self.refuses(ParseError, None, read_plan, FLAG, text)
        self.same(len(read_plan(FLAG, "0: set, set, set | set, set, set")), 6)

    def test_wrong_arguments(self):
        self.refuses_each(write_plan, (Plan(FLAG, 0, ("set",), ("set",)),), ((InvalidPlan, values_but_plans()),))
        for value in values_but_kinds():
            self.refuses(InvalidKind, None, read_plan, value, "0: set | set")
            self.refuses(InvalidKind, None, read_plan, value, None)
            self.refuses(InvalidKind, None, read_plan, value, "0")
        for value in values():
            self.refuses(ParseError, 0 if isinstance(value, str) else None, read_plan, FLAG, value)


class ProgramTextTest(TextCase):
    def test_texts_that_are_written(self):
        rows = (("do", 0, "set", {1: 3, 0: 2}), ("read", 1, {1: 2, 0: 2}), ("decide", 0), ("decide", 1))
        self.same(write_program(Program(rows, (0, 1))),
                  "0 1; do 0 set 0:2 1:3; read 1 0:2 1:2; decide 0; decide 1")
        self.same(write_program(ALONE), "0 1; decide 0; decide 1")
        self.same(write_program(TAKE), "0 1; do 1 puta 0:2; do 1 putb 0:2; do 0 set 0:3 1:5; read 1 0:4 1:6; "
                                       "decide 0; read 2 0:4 1:6; decide 1")

    def test_what_was_written_is_read(self):
        long = Program(tuple(("read", 15, dict.fromkeys(range(12), 159 - row)) for row in range(160)), (159, 0))
        for program in PROGRAMS + [long, CLAIM, TAKE]:
            self.same(read_program(write_program(program)), program)

    def test_texts_near(self):
        sorts = set()
        for program in (ALONE, TAKE, CLAIM):
            for text in near_texts(write_program(program)):
                sorts.add(self.judged(read_program, write_program, (STARTS, ROW), text))
        self.same(sorted(sorts), ["form", "read", "value"])

    def test_the_first_piece_that_has_not_the_form(self):
        for text, at in (
            ("", 0), ("0", 0), ("0 1 2; decide 0", 0), ("0 01; decide 0", 0), ("0  1; decide 0", 0), ("decide 0", 0),
            ("0 a; decide", 0), ("0 1;decide 0", 0), ("0 1; ", 1), ("0 1; decide", 1), ("0 1; decide 0 1", 1),
            ("0 0; decide a", 1), ("0 0; decide 00", 1), ("0 0; Decide 0", 1), ("0 0; decide 0; read 0", 2),
            ("0 0; decide 0; read 0:0", 2), ("0 0; decide 0; do 0 set", 2), ("0 0; do 0 0:0", 1),
            ("0 0; do set 0:0", 1),
            ("0 0; do 0 set 0:0 ", 1), ("0 0; do 0 set  0:0", 1), ("0 0; do 0 set 0:00", 1), ("0 0; do 0 set 00:0", 1),
            ("0 0; do 00 set 0:0", 1), ("0 0; do 0 s3t 0:0", 1), ("0 0; do 0 Set 0:0", 1), ("0 0; read 0 0:0:0", 1),
            ("0 0; read a 0:0", 1), ("0 0; read 0 0/0", 1), ("0 0; jump 0", 1), ("0 0; decide 0; ; decide", 2),
            ("0 0; decide 0;  decide 1", 2), ("0 0; decide 0\n", 1), ("0 0; do 0 set set 0:0", 1),
            ("0 0; decide -1", 1),
        ):
            self.refuses(ParseError, at, read_program, text)

    def test_texts_of_no_program(self):
        rows = "; ".join(["decide 0"] * 160)
        self.same(len(read_program(f"0 159; {rows}")), 160)
        for text in (
            "0 1", "0 1; decide 0", "0 0; decide 2", f"0 0; decide {LONG}", "0 0; read 16 0:0", "0 0; read 0 12:0",
            "0 0; read 0 0:1", "0 0; do 0 abcdefghi 0:0", "0 0; do 0 set 100:0", "0 0; do 16 set 0:0",
            "0 0; do 0 set 1:0 0:0", "0 0; do 0 set 0:0 0:0", "0 0; do 0 set 0:0 0:1; decide 0", "0 0; read 0 1:0 0:0",
            "0 0; read 0 1:0 1:0", f"0 0; read {LONG} 0:0", f"{LONG} 0; decide 0", f"0 160; {rows}",
            f"0 0; {rows}; decide 0", f"0 0; read 0 {'1' * 1900}:0", f"0 0; do 0 {'a' * 1900} 0:0",
            f"0 0; read 0 0:{'1' * 61} 0:0",
        ):
            self.refuses(ParseError, None, read_program, text)
        self.same(read_program("0 0; do 15 abcdefgh 99:0").rows, (("do", 15, "abcdefgh", {99: 0}),))

    def test_wrong_arguments(self):
        for value in values():
            if not isinstance(value, Program):
                self.refuses(InvalidProgram, None, write_program, value)
            if not isinstance(value, str):
                self.refuses(ParseError, None, read_program, value)
            else:
                self.judged(read_program, write_program, (STARTS, ROW), value)
        self.refuses(InvalidProgram, None, write_program, System((), (ALONE,)))


class DrawnTest(TextCase):
    def test_drawn_texts(self):
        chance = random.Random(154)
        words = ["set", "a", "0", "1", "1/0", "0/0", "0:0", "1:0", "do", "read", "decide", "0 0", "|", ":", "2/1", "; "]
        for _ in range(3000):
            text = chance.choice(["", "0 0; ", "set 0/0; "])
            for _ in range(chance.randint(1, 6)):
                text += chance.choice(words) + chance.choice([" ", "; ", "", " "])
            text = text.strip() if chance.random() < 0.8 else text
            self.judged(read_kind, write_kind, (OPERATION,), text)
            self.judged(read_program, write_program, (STARTS, ROW), text)


class SharingTest(Case):
    def test_values_stay_as_they_are(self):
        before = shown([FLAG, TAKE, ADD])
        for _ in range(2):
            read_kind(write_kind(FLAG)).operations.clear()
            read_program(write_program(TAKE)).rows[0][3].clear()
            read_plan(ADD, "0: add | add").kind.operations.clear()
        self.assertEqual(shown([FLAG, TAKE, ADD]), before)
        self.same((read_kind("set 1/0 1/1"), read_kind("set 1/0 1/1")), (FLAG, FLAG))


if __name__ == "__main__":
    unittest.main()
