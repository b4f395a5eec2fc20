"""The shell: [14.3], [14.4], stage 14."""

import random
import unittest

from teamtells.base.kinds import is_name
from teamtells.base.made import adder_kind, cell_kind, fading_kind, flag_kind, queue_kind, slot_kind, swap_kind
from teamtells.desk.desk import Desk
from teamtells.errors import (
    InvalidOperation, NothingToUndo, ParseError, Refused, TooMany, UnknownName,
)
from teamtells.plans.telling import confusion, is_confusion, tells
from teamtells.search.found import first_plan
from teamtells.text.shell import Shell
from teamtells.text.texts import read_kind, read_plan, write_kind, write_plan
from tests.cases import SIXTY, SIXTY_ONE, Case, shown, values
from tests.systems import CELL, FLAG, SLOT

FLAG_TEXT = "set 1/0 1/1"
CELL_TEXT = "puta 0/0 0/0; putb 1/0 1/0"
GREAT = fading_kind(5)
for extra in ("aa", "bb", "cc", "dd"):
    GREAT = GREAT.with_operation(extra, tuple((state, 1) for state in range(12)))


def shell_with(**kinds):
    shell = Shell()
    for name, kind in kinds.items():
        shell(f"enter {name} {write_kind(kind)}")
    return shell


class ShellCase(Case):
    def answers(self, shell, *pairs):
        """The shell answers to commands; errors have no effect."""
        for command, wanted in pairs:
            before, many = shell.desk(), len(shell)
            answer = shell(command)
            self.same((command, answer), (command, wanted))
            failed = answer in ("what", "no") or answer.split(" ")[0] in ("unknown", "refused", "many", "nothing")
            self.same((command, len(shell)), (command, many if failed else many + 1))
            if failed:
                self.same(shown(shell.desk()), shown(before))
            self.same(str(shell), f"shell of {len(shell)} commands")


class ChangesTest(ShellCase):
    def test_each_change(self):
        shell = Shell()
        self.answers(
            shell, (f"enter flag {FLAG_TEXT}", "flag 0 2"), (f"enter cell {CELL_TEXT}", "cell 0 1"),
            (f"enter slot {write_kind(SLOT)}", "slot 0 endless"), ("join both cell flag", "both 0 2"),
            ("cut slot setb", "slot endless 1"), ("hush flag", "flag 2 1"), ("hush cell", "none"),
            ("remove cell", "cell 1 0"), ("undo", "cell 0 1"), ("undo 3", "flag 1 2, slot 1 endless"),
            ("redo 2", "flag 2 1, slot endless 1"), ("redo", "none"), ("redo", "cell 1 0"), ("redo 0", "none"),
            ("undo 0", "none"), ("undo 8", "both 2 0, flag 1 0, slot 1 0"), ("grades", "none"), ("names", "none"),
            ("redo 8", "both 0 2, flag 0 1, slot 0 1"),
        )
        self.same(len(shell), 19)

    def test_pins(self):
        shell = shell_with(flag=FLAG, adder=adder_kind(3), slot=SLOT)
        self.answers(
            shell, ("pin least flag 2", "none"), ("pin most flag 3", "none"), ("pin equal flag adder", "none"),
            ("pin least slot 4", "none"), ("pin most slot 4", "refused most slot 4"),
            ("pin equal adder slot", "refused equal adder slot"), ("hush flag", "refused least flag 2"),
            (f"enter adder {CELL_TEXT}", "refused equal flag adder"), ("remove slot", "no"), ("remove adder", "no"),
            (f"enter flag {write_kind(SLOT)}", "refused most flag 3"), ("unpin most flag 3", "none"),
            (f"enter flag {write_kind(SLOT)}", "refused equal flag adder"), ("unpin equal adder flag", "no"),
            ("unpin equal flag adder", "none"), (f"enter flag {write_kind(SLOT)}", "flag 2 endless"),
            ("pin equal flag slot", "none"), ("unpin least flag 2", "none"), ("unpin least flag 2", "no"),
            ("undo", "none"), ("pin least flag 2", "no"), ("redo", "none"), ("redo", "nothing 1"),
        )
        self.same(shell.desk().pins, (("least", "slot", 4), ("equal", "flag", "slot")))

    def test_pins_that_are_none(self):
        shell = shell_with(a=FLAG, b=CELL)
        self.answers(
            shell, ("pin least nobody 2", "no"), ("pin equal a nobody", "no"), ("unpin most nobody 4", "no"),
            ("pin equal a a", "no"), ("unpin least a 2", "no"), ("pin least a 0", "what"), ("pin least a 5", "what"),
            ("pin most a 02", "what"), ("pin most A 2", "what"), ("pin equal a B", "what"), ("pin equal a", "what"),
            ("pin least a", "what"), ("pin least a b", "what"), ("pin equal a 2", "what"), ("pin", "what"),
            ("unpin", "what"), ("pin more a 2", "what"), ("unpin least a 5", "what"), ("pin least a 2 3", "what"),
            ("pin least a -1", "what"), ("unpin equal a a", "no"), ("pin equal a b", "refused equal a b"),
        )


class QuestionsTest(ShellCase):
    def test_each_question(self):
        shell = shell_with(slot=SLOT, flag=FLAG, fade=fading_kind(5))
        self.answers(
            shell, ("grade flag", "2"), ("grade slot", "endless"), ("grade fade", "4"),
            ("grades", "fade:4 flag:2 slot:endless"), ("names", "fade flag slot"), ("show flag", FLAG_TEXT),
            ("show slot", write_kind(SLOT)), ("plan flag 2", "0: set | set"), ("plan flag 3", "none"),
            ("plan slot 3", "0: seta | setb, setb"), ("plan fade 6", "none"), ("tells flag 0: set | set", "yes"),
            ("tells slot 0: seta, seta | setb", "yes"), ("tells flag 1: set | set", "0: 0, 1 0"),
            ("show fade", write_kind(fading_kind(5))),
        )

    def test_first_plans(self):
        shell = shell_with(queue=queue_kind(1), swap=swap_kind(2), cell=CELL, great=GREAT)
        for name in shell.desk():
            for threads in range(2, 7):
                if name == "great" and threads > 4:
                    self.answers(shell, (f"plan {name} {threads}", "many 20000"))
                    continue
                plan = first_plan(shell.desk()[name], threads)
                self.answers(shell, (f"plan {name} {threads}", "none" if plan is None else write_plan(plan)))

    def test_confusions(self):
        shell = shell_with(flag=FLAG, cell=CELL, slot=SLOT)
        many = 0
        for name, text in (
            ("flag", "0: set, set | set"), ("flag", "1: set | set"), ("cell", "0: puta | putb"),
            ("cell", "1: puta, putb | putb, puta"), ("slot", "0: seta | seta"), ("slot", "0: seta | setb"),
            ("slot", "1: seta | setb"), ("flag", "0: set | set"),
        ):
            plan = read_plan(shell.desk()[name], text)
            answer = shell(f"tells {name} {text}")
            if tells(plan):
                self.same(answer, "yes")
                continue
            thread, orders = answer.split(": ")
            one, other = (tuple(int(word) for word in order.split(" ")) for order in orders.split(", "))
            self.same(is_confusion(plan, (int(thread), one, other)), True)
            self.same((int(thread), one, other), confusion(plan))
            many += 1
        self.same(many, 6)

    def test_errors_of_questions(self):
        shell = shell_with(flag=FLAG)
        self.answers(
            shell, ("grade nobody", "unknown nobody"), ("show nobody", "unknown nobody"),
            ("plan nobody 2", "unknown nobody"), ("tells nobody 0: set | set", "unknown nobody"),
            ("tells nobody nothing at all", "unknown nobody"), ("tells flag nothing at all", "what"),
            ("tells flag 0: set | add", "what"), ("tells flag 2: set | set", "what"), ("tells flag 0: set", "what"),
            ("tells flag 00: set | set", "what"), ("tells flag 0:  set | set", "what"), ("tells flag", "what"),
            ("tells nobody", "what"), ("tells nobody ", "what"), ("tells nobody a  b", "what"), ("tells No a", "what"),
            ("tells nobody  a", "what"), ("tells nobody a ", "what"),
            ("plan flag 1", "what"), ("plan flag 7", "what"), ("plan flag 0", "what"), ("plan flag 02", "what"),
            ("plan flag two", "what"), ("plan nobody 7", "what"), ("plan Nobody 2", "what"), ("plan flag", "what"),
            ("plan flag 2 3", "what"), ("grade", "what"), ("grade Flag", "what"), ("grade flag slot", "what"),
            ("show", "what"), ("show 7", "what"), ("names flag", "what"), ("grades flag", "what"), ("names ", "what"),
            ("grade abcdefgh", "unknown abcdefgh"), ("grade abcdefghi", "what"), ("show flag ", "what"),
        )


class ErrorsTest(ShellCase):
    def test_no_commands(self):
        shell = shell_with(flag=FLAG, a=CELL)
        for value in values():
            if not isinstance(value, str):
                self.same((shell(value), len(shell)), ("what", 2))
            else:
                self.answers(shell, (value, "what"))
        for command in (
            "", " ", "flag", "Enter b set 1/0 1/1", "enter", "enter b", "enter b ", " enter b set 1/0 1/1",
            "enter  b set 1/0 1/1", "enter b  set 1/0 1/1", "enter b set 1/0 1/1 ", "enter b set 1/0  1/1",
            "enter B set 1/0 1/1", "enter abcdefghi set 1/0 1/1", "enter b set 1/0", "enter b set 01/0 1/1",
            "enter b set 1/0 1/1;", "enter b set 1/0 1/1; ", "enter b set 1/0 1/1\n", "enter b\nset 1/0 1/1",
            "enter b set 1/0 1/1; set 1/0 1/1", "enter b z 0/0; y 0/0", "enter set 1/0 1/1", "remove", "remove ",
            "remove flag a", "remove  flag", "remove flag ", " remove flag", "remove 1", "remove Flag", "remove\nflag",
            "cut flag", "cut flag set a", "cut flag 1", "cut Flag set", "cut flag Set", "hush", "hush flag a", "hush 1",
            "join b flag", "join b flag a a", "join b flag  a", "join B flag a", "join b Flag a", "join b flag A",
            "undo  1", "undo 01", "undo -1", "undo one", "undo 1 1", "undo ", "redo 00", "redo +1", "redo 1.0", "redo ",
            "undo " + str(SIXTY_ONE), "redo " + "9" * 1900, "undo\n1", "names\n", "desk", "trial", "twin", "what",
            "none",
        ):
            self.answers(shell, (command, "what"))

    def test_unknown_names(self):
        shell = shell_with(flag=FLAG, a=CELL)
        self.answers(
            shell, ("remove nobody", "unknown nobody"), ("cut nobody set", "unknown nobody"),
            ("cut flag add", "unknown add"), ("hush nobody", "unknown nobody"),
            ("join b nobody other", "unknown nobody"), ("join b flag other", "unknown other"),
            ("cut nobody nothing", "unknown nobody"), ("join b other flag", "unknown other"),
        )

    def test_too_many_and_what_cannot_be_done(self):
        shell = shell_with(**{name: CELL for name in "abcdef"}, queue=queue_kind(2), flag=FLAG)
        six = "; ".join(f"{name} 0/0" for name in "uvwxyz")
        self.answers(
            shell, (f"enter i {FLAG_TEXT}", "many 8"), ("join i a flag", "many 8"), ("join i queue flag", "many 12"),
            ("cut flag set", "no"), ("join a a b", "no"), ("remove f", "f 1 0"), (f"enter six {six}", "six 0 1"),
            ("join six six flag", "many 6"), ("undo 11", "nothing 11"), (f"undo {SIXTY}", f"nothing {SIXTY}"),
            ("redo 1", "nothing 1"), ("redo", "nothing 1"),
        )
        empty = Shell()
        self.answers(empty, ("undo", "nothing 1"), ("undo 0", "none"), ("undo 1", "nothing 1"), ("redo", "nothing 1"))

    def test_nine_pins(self):
        shell = shell_with(a=FLAG, b=FLAG)
        for command in ("least a 1", "least a 2", "most a 2", "most a 3", "most a 4", "least b 1", "least b 2",
                        "equal a b"):
            self.answers(shell, (f"pin {command}", "none"))
        self.answers(shell, ("pin equal b a", "many 8"), ("pin equal a b", "no"), ("unpin most a 4", "none"),
                     ("pin equal b a", "none"))


class Told:
    """What a shell must answer, by a desk of its own and the words of the table."""

    def __init__(self):
        self.desk = Desk()

    def answer(self, command):
        try:
            return self.done(command)
        except UnknownName as error:
            return f"unknown {error.wanted}"
        except Refused as error:
            return "refused " + " ".join(str(part) for part in error.claim)
        except TooMany as error:
            return f"many {error.limit}"
        except NothingToUndo as error:
            return f"nothing {error.many}"
        except InvalidOperation:
            return "no"

    def done(self, command):
        word, *rest = command.split(" ")
        if word == "enter":
            try:
                kind = read_kind(" ".join(rest[1:]))
            except ParseError:
                return "what"
            return self.news(self.desk.enter(rest[0], kind)) if is_name(rest[0]) else "what"
        if not all(is_name(part) for part in rest if not part.isdigit()):
            return "what"
        if word in ("pin", "unpin"):
            if rest[0] != "equal" and rest[2] not in "1234":
                return "what"
            pin = tuple(rest) if rest[0] == "equal" else (rest[0], rest[1], int(rest[2]))
            getattr(self.desk, word)(pin)
            return "none"
        if word in ("undo", "redo"):
            return self.news(getattr(self.desk, word)(many=int(rest[0]) if rest else 1))
        call = {"remove": "remove", "cut": "cut_off", "hush": "hush", "join": "put_beside"}[word]
        return self.news(getattr(self.desk, call)(*rest))

    def news(self, news):
        return ", ".join(f"{name} {old} {new}" for name, old, new in news) or "none"


class DrawnTest(ShellCase):
    def some_command(self, chance):
        names = ("a", "b", "flag", "slot", "ill", "Ill", "abcdefghi")
        kinds = [FLAG, CELL, SLOT, fading_kind(3), slot_kind(1), cell_kind(1), queue_kind(1)]
        name, one, other = (chance.choice(names[:chance.choice((3, 4, 4, 7))]) for _ in range(3))
        operation = chance.choice(("set", "seta", "puta", "leave", "Set"))
        number = chance.randint(0, 5)
        return chance.choice((
            f"enter {name} {write_kind(chance.choice(kinds))}", f"enter {one} {write_kind(chance.choice(kinds))}",
            f"enter {name} set 1/0", f"remove {name}", f"cut {name} {operation}", f"hush {name}",
            f"join {name} {one} {other}", f"join {other} {one} {name}", f"pin least {name} {number}",
            f"pin most {name} {number}", f"pin equal {one} {other}", f"unpin least {name} {number}",
            f"unpin equal {one} {other}", "undo", f"undo {number}", "redo", f"redo {number}",
        ))

    def test_drawn_commands(self):
        chance = random.Random(161)
        words = set()
        for _ in range(40):
            shell, told, good = Shell(), Told(), 0
            for _ in range(80):
                command = self.some_command(chance)
                wanted = told.answer(command)
                self.same((command, shell(command)), (command, wanted))
                first = wanted.split(" ")[0]
                failed = first in ("what", "no", "unknown", "refused", "many", "nothing")
                words.add(first if failed or first == "none" else "news")
                good += not failed
                self.same((len(shell), shell.desk() == told.desk), (good, True))
                grades = [f"{name}:{grade}" for name, grade in told.desk.grades.items()]
                self.same(shell("grades"), " ".join(grades) or "none")
                good += 1
        self.same(sorted(words), ["many", "news", "no", "none", "nothing", "refused", "unknown", "what"])


class ShellTest(ShellCase):
    def test_its_desk(self):
        shell = shell_with(flag=FLAG, slot=SLOT)
        shell("pin least flag 2")
        shell("undo")
        desk = shell.desk()
        self.same((desk.__class__, desk.kinds, desk.pins), (Desk, {"flag": FLAG, "slot": SLOT}, ()))
        # Its histories are those of the shell's own desk, which goes on by itself.
        self.same([desk.redo(), desk.remove("slot"), len(desk)], [(), (("slot", "endless", 0),), 1])
        self.same([shell("names"), shell("redo"), shell.desk().pins], ["flag slot", "none", (("least", "flag", 2),)])
        self.assertIs(shell.desk() == shell.desk(), True)
        self.assertIsNot(shell.desk(), shell.desk())

    def test_shells_by_themselves(self):
        one, other = Shell(), Shell()
        self.same([one(f"enter flag {FLAG_TEXT}"), other("names"), len(one), len(other)], ["flag 0 2", "none", 1, 1])
        self.same([str(Shell()), len(Shell()), Shell().desk() == Desk()], ["shell of 0 commands", 0, True])
        self.same([one == value for value in values()], [False] * len(values()))
        self.assertIs(one != other, True)
        for call in (list, iter):
            with self.assertRaises(TypeError):
                call(one)

    def test_kinds_as_they_were_entered(self):
        shell = Shell()
        for kind in (flag_kind(), fading_kind(5), queue_kind(2), swap_kind(6), cell_kind(6)):
            shell(f"enter kind {write_kind(kind)}")
            self.same((shell.desk()["kind"], shell("show kind")), (kind, write_kind(kind)))


if __name__ == "__main__":
    unittest.main()
