"""What the tests share: values of all sorts, and a case that tests what is refused."""

import unittest

from teamtells.base.kinds import Kind
from teamtells.base.made import flag_kind, slot_kind
from teamtells.desk.desk import Desk
from teamtells.errors import (
    InvalidKind, InvalidNumber, NothingToUndo, ParseError, Refused, TooMany, UnknownName,
)
from teamtells.plans.plans import Plan
from teamtells.plans.telling import Watch
from teamtells.sets.sets import Choice
from teamtells.systems.programs import Program, System
from teamtells.systems.runs import Run
from teamtells.text.shell import Shell

KEPT = {
    ParseError: "at",
    InvalidNumber: "given",
    UnknownName: "wanted",
    NothingToUndo: "many",
    TooMany: "limit",
    Refused: "claim",
}

SIXTY = 10 ** 60 - 1
SIXTY_ONE = 10 ** 60


def nested(value, depth, wrap):
    """The value inside so many wraps."""
    for _ in range(depth):
        value = wrap(value)
    return value


def integers():
    small = [-100, -12, -2, -1, 0, 1, 2, 3, 4, 5, 6, 7, 8, 10, 11, 12, 13, 14, 98, 99, 100, 101]
    great = [10 ** 59, SIXTY, SIXTY_ONE, 10 ** 99, 10 ** 100 - 1]
    return small + great + [-number for number in great]


def strings():
    return [
        "", "a", "z", "add", "set", "sets", "abcdefgh", "abcdefghi", "A", "Set", "seT", "a1", "0", "1",
        " ", " set", "set ", "se t", "set\n", "\nset", "\n", "se-t", "se_t", "`", "{", "@", "None", "True",
        "a" * 2000, "x\n" * 1000, "~" * 2000,
    ]


def tuples():
    return [
        (), (0,), (1,), (0, 0), (0, 1), (1, 0), (0, 1, 2), (True, False), (0, True), (None,), ("set",), ("set", 0),
        ((0, 0),), ((0, 0), (1, 0)), ((0, 0), (0, True)), ((0, 0), [1, 0]), (0,) * 12, tuple(range(12)),
        ((0, 0),) * 12, ((0, 0),) * 13, (SIXTY, SIXTY_ONE), nested(0, 8, lambda value: (value,)),
    ]


def lists():
    return [
        [], [0], [1, 0], [0, 1, 2], ["set"], [None], [(0, 0), (1, 0)], [[0, 0], [1, 0]], [{}], [()],
        nested(0, 8, lambda value: [value]), nested([], 7, lambda value: [value, value]),
    ]


def dicts():
    return [
        {}, {"set": 0}, {"set": "set"}, {"set": None}, {"set": ()}, {"set": []}, {"set": ((0, 0),)},
        {"set": [(0, 0), (1, 0)]}, {"set": {"set": 0}}, {0: 0}, {0: "set"}, {None: None}, {True: ((0, 0),)},
        {("set",): ((0, 0),)}, {"": ((0, 0),)}, {"SET": ((0, 0),)}, {"set": "a", "other": "b"},
        nested(0, 8, lambda value: {"set": value}), nested((), 7, lambda value: {"set": [value]}),
    ]


def system_objects():
    program = Program((("do", 0, "set", {0: 1, 1: 2}), ("decide", 0), ("decide", 1)), (0, 0))
    system = System(((flag_kind(), 0),), (program,))
    run = Run(system, (0,))
    return [
        program, (program,), [program], program.rows, (program.rows, (0, 0)), system, (system,), {"system": system},
        system.objects, list(system.objects), run, (run, run), {(0,): {run.configuration: 1}},
    ]


def objects_of_last_stages():
    choice, desk, shell = Choice(2), Desk(), Shell()
    choice.put(flag_kind())
    desk.enter("set", flag_kind())
    shell("enter set set 1/0 1/1")
    return [choice, (choice,), desk, [desk], {"set": desk}, ("enter", "set", desk), shell, (shell, shell)]


def objects():
    flag = flag_kind()
    race = Plan(flag, 0, ("set",), ("set",))
    return [
        flag, slot_kind(2), (flag,), [flag], {"set": flag}, {"set": ((0, flag),)}, (flag, slot_kind(2)),
        race, (race,), [race, race], {"set": race}, ("plan", race), Watch(race), ((Watch(race),),), *system_objects(),
        *objects_of_last_stages(),
        InvalidKind("no kind"), InvalidNumber(3), [TooMany(6)],
    ]


def values():
    """Values of all sorts that [0.4] names, new ones each time."""
    return integers() + [True, False, None] + strings() + tuples() + lists() + dicts() + objects()


def is_integer(value):
    return isinstance(value, int) and not isinstance(value, bool)


def values_but_numbers(least, most):
    """All values but the integers from least to most."""
    return [value for value in values() if not (is_integer(value) and least <= value <= most)]


def values_but(*right):
    """All values but these, in which True is not 1."""
    texts = [shown(value) for value in right]
    return [value for value in values() if shown(value) not in texts]


def values_but_kinds():
    return [value for value in values() if not isinstance(value, Kind)]


def values_but_systems():
    return [value for value in values() if not isinstance(value, System)]


def values_but_plans():
    return [value for value in values() if not isinstance(value, Plan)]


def values_but_texts(*texts):
    return [value for value in values() if not (isinstance(value, str) and value in texts)]


def shown(value):
    """A text that differs for values that differ, also inside kinds."""
    if isinstance(value, Kind):
        return f"Kind({value.operations!r})"
    if isinstance(value, Plan):
        return f"Plan({shown(value.kind)}, {value.start!r}, {value.teams!r}, {value.threads!r})"
    if isinstance(value, Program):
        return f"Program({shown(value.rows)}, {value.starts!r})"
    if isinstance(value, System):
        return f"System({shown(value.objects)}, {shown(value.programs)})"
    if isinstance(value, Run):
        return f"Run({value.inputs!r}, {value.trail!r}, {value.replies!r}, {value.configuration!r}, {value.decided!r})"
    if isinstance(value, Choice):
        return f"Choice({value.goal!r}, {shown(value.kinds)}, {value.leader!r})"
    if isinstance(value, Desk):
        return f"Desk({shown(value.kinds)}, {shown(value.grades)}, {shown(value.pins)})"
    if isinstance(value, Shell):
        return f"Shell({shown(value.desk())}, {len(value)})"
    if isinstance(value, Watch):
        return f"Watch({value.order!r}, {value})"
    if isinstance(value, (list, tuple)):
        return f"{value.__class__.__name__}({[shown(part) for part in value]})"
    if isinstance(value, dict):
        return f"dict({[(shown(key), shown(value[key])) for key in value]})"
    return repr(value)


class Case(unittest.TestCase):
    def refuses(self, error, kept, call, *arguments, **keywords):
        """The call raises just this error, which keeps just this, and changes no argument."""
        before = shown(arguments)
        with self.subTest(call=getattr(call, "__name__", call), arguments=before[:200], keywords=shown(keywords)[:200]):
            with self.assertRaises(error) as caught:
                call(*arguments, **keywords)
            self.assertIs(caught.exception.__class__, error)
            if error in KEPT:
                found = getattr(caught.exception, KEPT[error])
                self.assertEqual(shown(found), shown(kept))
            self.assertEqual(shown(arguments), before)

    def same(self, found, wanted):
        """Equal, also in the sorts of all values inside, in which True is not 1."""
        self.assertEqual(shown(found), shown(wanted))

    def refuses_each(self, call, right, wrong):
        """Each argument is refused for its wrong values, also if all behind it are wrong, too.

        For each of the right arguments, `wrong` has a pair of an error and of the values for which it is raised, or
        None if every value is right there.
        """
        for place, pair in enumerate(wrong):
            if pair is None:
                continue
            behind = [right[at] if wrong[at] is None else wrong[at][1][-1] for at in range(place + 1, len(right))]
            for value in pair[1]:
                self.refuses(pair[0], value, call, *right[:place], value, *right[place + 1:])
                self.refuses(pair[0], value, call, *right[:place], value, *behind)
