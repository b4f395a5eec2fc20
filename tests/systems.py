"""Systems of many sorts, and what the document says of their runs, found by a plain walk."""

import itertools
import random

from teamtells.base.made import adder_kind, cell_kind, flag_kind, slot_kind
from teamtells.systems.programs import Program, System

FLAG = flag_kind()
CELL = cell_kind(2)
SLOT = slot_kind(2)
TAKE = Program(
    (
        ("do", 1, "puta", {0: 2}), ("do", 1, "putb", {0: 2}), ("do", 0, "set", {0: 3, 1: 5}),
        ("read", 1, {0: 4, 1: 6}), ("decide", 0), ("read", 2, {0: 4, 1: 6}), ("decide", 1),
    ),
    (0, 1),
)
PAIR = System(((FLAG, 0), (CELL, 0), (CELL, 0)), (TAKE, TAKE.on({0: 0, 1: 2, 2: 1})))
# Each thread sets the slot to its input, and decides for what it holds. This is right, also with restarts.
CLAIM = Program(
    (("do", 0, "seta", {1: 2, 2: 3}), ("do", 0, "setb", {1: 2, 2: 3}), ("decide", 0), ("decide", 1)), (0, 1),
)
CLAIMS = [System(((SLOT, 0),), (CLAIM,) * many) for many in (1, 2, 3)]
# A thread that decides for its input alone: right for one thread, unlike for two.
ALONE = Program((("decide", 0), ("decide", 1)), (0, 1))
# A thread that waits until the cell holds the second value: a round.
WAITING = Program((("read", 0, {0: 0, 1: 1}), ("decide", 0)), (0, 0))
# A thread that lets the others go on that wait.
WAKING = Program((("do", 0, "putb", {0: 1}), ("decide", 0)), (0, 0))
# A thread that decides for 0, whatever its input is.
STUBBORN = Program((("decide", 0),), (0, 0))
# A thread that goes through a counter, and starts again, until it meets 2.
COUNTING = Program(
    (("do", 0, "add", {0: 1, 1: 1, 2: 2}), ("do", 0, "add", {0: 0, 1: 0, 2: 2}), ("decide", 0)), (0, 1),
)


def row_of(chance, objects, targets):
    """A row that does or reads something, and goes on to some of the targets."""
    place = chance.randrange(len(objects))
    kind = objects[place][0]
    if chance.random() < 0.3:
        return "read", place, {state: chance.choice(targets) for state in range(kind.size)}
    name = chance.choice(kind.names)
    return "do", place, name, {answer: chance.choice(targets) for answer in kind.answers(name)}


def some_program(chance, objects, many):
    """A program of so many rows, two of which decide; rows seldom lead back."""
    rows = []
    for index in range(many - 2):
        ahead = list(range(index + 1, many))
        rows.append(row_of(chance, objects, ahead if chance.random() < 0.85 else ahead + [chance.randint(0, index)]))
    rows += [("decide", 0), ("decide", 1)]
    return Program(tuple(rows), (0, min(1, many - 1)))


def some_system(chance):
    """A system of one to three threads."""
    kinds = [FLAG, CELL, SLOT, adder_kind(3)]
    objects = tuple((kind, chance.randrange(kind.size)) for kind in chance.choices(kinds, k=chance.randint(1, 2)))
    threads = chance.choice([1, 2, 2, 2, 3])
    most = {1: 6, 2: 5, 3: 4}[threads]
    return System(objects, tuple(some_program(chance, objects, chance.randint(2, most)) for _ in range(threads)))


def some_systems(seed, many):
    chance = random.Random(seed)
    waiting = System(((CELL, 0),), (WAITING, WAITING))
    fixed = [
        PAIR, *CLAIMS, System((), (ALONE,)), System((), (ALONE, ALONE)), System((), (STUBBORN,)), waiting,
        System(((CELL, 1),), (WAITING,)), System(((adder_kind(3), 0),), (COUNTING,)),
        System(((adder_kind(3), 1),), (COUNTING, COUNTING)), PAIR.opposite(), CLAIMS[1].opposite(),
        System(((CELL, 0),), (WAKING, WAITING)), System(((CELL, 0),), (WAITING, WAKING, WAITING)),
    ]
    return fixed + [some_system(chance) for _ in range(many - len(fixed))]


def inputs_of(system):
    return list(itertools.product((0, 1), repeat=len(system)))


def decisions_of(system, rows):
    """The decision of each thread, or None."""
    found = []
    for program, row in zip(system.programs, rows):
        found.append(program.rows[row][1] if program.rows[row][0] == "decide" else None)
    return tuple(found)


def first_moment(system, inputs):
    states = tuple(state for _, state in system.objects)
    rows = tuple(program.starts[number] for program, number in zip(system.programs, inputs))
    return with_decisions(system, states, rows, ())


def with_decisions(system, states, rows, decided):
    now = {decision for decision in decisions_of(system, rows) if decision is not None}
    return states, rows, tuple(sorted(now | set(decided)))


def stepped(system, moment, thread):
    """The pair of the moment behind a step and of what the step told; None if the thread has decided."""
    states, rows, decided = list(moment[0]), list(moment[1]), moment[2]
    row = system.programs[thread].rows[rows[thread]]
    if row[0] == "decide":
        return None
    if row[0] == "read":
        told = states[row[1]]
    else:
        states[row[1]], told = system.objects[row[1]][0].operations[row[2]][states[row[1]]]
    rows[thread] = row[-1][told]
    return with_decisions(system, tuple(states), tuple(rows), decided), told


def restarted(system, moment, thread, inputs):
    rows = list(moment[1])
    rows[thread] = system.programs[thread].starts[inputs[thread]]
    return with_decisions(system, moment[0], tuple(rows), moment[2])


class Explored:
    """All moments that are reached with some inputs, and what is true of them."""

    def __init__(self, system, inputs, restarts):
        self.system = system
        self.first = first_moment(system, inputs)
        self.steps = {}
        waiting = [self.first]
        while waiting:
            moment = waiting.pop()
            if moment in self.steps:
                continue
            behind = [stepped(system, moment, thread) for thread in range(len(system))]
            self.steps[moment] = [step[0] for step in behind if step is not None]
            waiting.extend(self.steps[moment])
            if restarts:
                waiting.extend(restarted(system, moment, thread, inputs) for thread in range(len(system)))
        self.unlike = any(len(moment[2]) > 1 for moment in self.steps)
        self.strange = any(set(moment[2]) - set(inputs) for moment in self.steps)
        self.rounds = any(self.comes_back(moment) for moment in self.steps)
        self.right = not (self.unlike or self.strange or self.rounds)

    def comes_back(self, home):
        """Whether one or more steps lead from a configuration back to it."""
        met = set()
        waiting = [home]
        while waiting:
            for behind in self.steps[waiting.pop()]:
                if behind[:2] == home[:2]:
                    return True
                if behind not in met:
                    met.add(behind)
                    waiting.append(behind)
        return False

    def height(self):
        """The greatest number of steps from the first moment on, where there are no rounds."""
        heights = {}

        def height(moment):
            if moment not in heights:
                heights[moment] = max([height(behind) + 1 for behind in self.steps[moment]], default=0)
            return heights[moment]

        return height(self.first)


def is_right_by_walk(system, restarts):
    return all(Explored(system, inputs, restarts).right for inputs in inputs_of(system))


def is_fault_by_walk(system, value, restarts):
    """Whether a value in the form of a fault is one."""
    word, inputs, deeds = value[:3]
    moment = first_moment(system, inputs)
    for deed in deeds:
        if isinstance(deed, tuple):
            if not restarts or deed[0] != "restart" or not 0 <= deed[1] < len(system):
                return False
            moment = restarted(system, moment, deed[1], inputs)
        else:
            step = stepped(system, moment, deed) if 0 <= deed < len(system) else None
            if step is None:
                return False
            moment = step[0]
    if word == "unlike":
        return moment[2] == (0, 1)
    if word == "strange":
        return bool(set(moment[2]) - set(inputs))
    before = moment
    for thread in value[3]:
        step = stepped(system, moment, thread) if 0 <= thread < len(system) else None
        if step is None:
            return False
        moment = step[0]
    return value[3] != () and moment[:2] == before[:2]


def is_paper_by_walk(system, value, restarts):
    """Whether a value in the form of a paper that a system is right is one."""
    if sorted(value) != inputs_of(system):
        return False
    for inputs, part in value.items():
        if first_moment(system, inputs) not in part:
            return False
        for moment, number in part.items():
            decided = set(moment[2])
            if number < 0 or len(decided) > 1 or decided - set(inputs):
                return False
            if {one for one in decisions_of(system, moment[1]) if one is not None} - decided:
                return False
            for thread in range(len(system)):
                step = stepped(system, moment, thread)
                if step is not None and not (step[0] in part and part[step[0]] < number):
                    return False
                if restarts and restarted(system, moment, thread, inputs) not in part:
                    return False
    return True
