"""Programs of threads, and systems of objects and programs [0.13]."""

from teamtells.base.kinds import MAX_ANSWER, MAX_STATES, Kind, is_name
from teamtells.base.values import is_number_in, need_number
from teamtells.errors import InvalidOperation, InvalidProgram, InvalidSystem
from teamtells.systems.steps import Steps

MAX_ROWS = 160
MAX_OBJECTS = 16
MAX_RUNNERS = 4


def need_system(value):
    """Raise InvalidSystem if the value is no system."""
    if not isinstance(value, System):
        raise InvalidSystem("not a system")


def is_rows(value):
    """Whether the value is the rows of a program."""
    if not isinstance(value, tuple) or not 1 <= len(value) <= MAX_ROWS:
        return False
    return all([_is_row(row, len(value)) for row in value])


def _is_row(value, many):
    """Whether the value is a row of a program of so many rows."""
    if not isinstance(value, tuple) or len(value) == 0:
        return False
    if value[0] == "decide":
        return len(value) == 2 and is_number_in(value[1], 0, 1)
    if value[0] == "read":
        return len(value) == 3 and _is_object(value[1]) and _are_moves(value[2], MAX_STATES - 1, many)
    if value[0] != "do" or len(value) != 4:
        return False
    return _is_object(value[1]) and is_name(value[2]) and _are_moves(value[3], MAX_ANSWER, many)


def _is_object(value):
    """Whether the value is the index of an object."""
    return is_number_in(value, 0, MAX_OBJECTS - 1)


def _are_moves(value, greatest, many):
    """Whether the value is a dict from numbers, up to the greatest one, to rows of so many."""
    if not isinstance(value, dict) or len(value) == 0:
        return False
    return all([is_number_in(key, 0, greatest) and is_number_in(row, 0, many - 1) for key, row in value.items()])


def _is_pair_of_rows(value, many):
    """Whether the value is a pair of two of so many rows."""
    if not isinstance(value, tuple) or len(value) != 2:
        return False
    return all([is_number_in(row, 0, many - 1) for row in value])


def _own_row(row):
    """The row with moves of its own, ascending."""
    if row[0] == "decide":
        return row
    moves = row[-1]
    return *row[:-1], {key: moves[key] for key in sorted(moves)}


def _opposite_row(row):
    """The row with its decision turned to the other number."""
    return ("decide", 1 - row[1]) if row[0] == "decide" else row


class Program:
    """What a thread does, row by row, from its first row for its input on. It never changes."""

    def __init__(self, rows, starts):
        if not is_rows(rows):
            raise InvalidProgram("not a tuple of rows")
        if not _is_pair_of_rows(starts, len(rows)):
            raise InvalidProgram("not a pair of first rows")
        self._rows = tuple([_own_row(row) for row in rows])
        self._starts = starts

    @property
    def rows(self):
        """All rows."""
        return tuple([_own_row(row) for row in self._rows])

    @property
    def starts(self):
        """The first rows for the inputs 0 and 1."""
        return self._starts

    def row(self, index):
        """One row."""
        self._need_index(index)
        return _own_row(self._rows[index])

    def rows_from(self, index):
        """The rows to which moves lead from a row, itself included, ascending."""
        self._need_index(index)
        met = {index: True}
        waiting = [index]
        while waiting:
            row = self._rows[waiting.pop()]
            behind = [] if row[0] == "decide" else list(row[-1].values())
            for other in behind:
                if other not in met:
                    met[other] = True
                    waiting.append(other)
        return tuple(sorted(met))

    def with_row(self, index, row):
        """The program with another row in the place of one."""
        self._need_index(index)
        return Program((*self._rows[:index], row, *self._rows[index + 1:]), self._starts)

    def opposite(self):
        """The program with the first rows exchanged, and with the other decisions."""
        return Program(tuple([_opposite_row(row) for row in self._rows]), (self._starts[1], self._starts[0]))

    def objects_used(self):
        """The indices of the objects in the rows, ascending."""
        return tuple(sorted({row[1] for row in self._rows if row[0] != "decide"}))

    def on(self, numbers):
        """The program with other objects, by a dict from the indices of the old ones to those of the new ones."""
        if not self._is_renumbering(numbers):
            raise InvalidOperation("not a dict from just all objects of the rows to indices")
        rows = [row if row[0] == "decide" else (row[0], numbers[row[1]], *row[2:]) for row in self._rows]
        return Program(tuple(rows), self._starts)

    def _need_index(self, index):
        need_number(index, 0, len(self._rows) - 1)

    def _is_renumbering(self, numbers):
        if not isinstance(numbers, dict) or not all([_is_object(old) for old in numbers]):
            return False
        return tuple(sorted(numbers)) == self.objects_used() and all([_is_object(new) for new in numbers.values()])

    def __len__(self):
        return len(self._rows)

    def __eq__(self, other):
        return isinstance(other, Program) and self._rows == other._rows and self._starts == other._starts

    def __str__(self):
        return f"program of {len(self._rows)} rows"


def _are_objects(value):
    """Whether the value is the objects of a system."""
    if not isinstance(value, tuple) or len(value) > MAX_OBJECTS:
        return False
    return all([_is_pair_of_object(pair) for pair in value])


def _is_pair_of_object(value):
    """Whether the value is a pair of a kind and a state of it."""
    if not isinstance(value, tuple) or len(value) != 2 or not isinstance(value[0], Kind):
        return False
    return is_number_in(value[1], 0, value[0].size - 1)


def is_system(objects, value):
    """Whether the value is the programs of a system with these objects."""
    if not _are_objects(objects):
        raise InvalidSystem("not a tuple of objects")
    if not isinstance(value, tuple) or not 1 <= len(value) <= MAX_RUNNERS:
        return False
    return all([_is_program_for(objects, program) for program in value])


def _is_program_for(objects, value):
    """Whether the value is a program for these objects."""
    return isinstance(value, Program) and all([_fits(objects, row) for row in value.rows])


def _fits(objects, row):
    """Whether an object, its operation and just its answers, or its states, are those of a row."""
    if row[0] == "decide":
        return True
    if row[1] >= len(objects):
        return False
    kind = objects[row[1]][0]
    if row[0] == "read":
        return tuple(row[2]) == tuple(range(kind.size))
    return row[2] in kind and tuple(row[3]) == kind.answers(row[2])


class System:
    """Objects, and threads with a program each. It never changes."""

    def __init__(self, objects, programs):
        if not is_system(objects, programs):
            raise InvalidSystem("not programs for these objects")
        self._objects = objects
        self._programs = programs
        self._steps = Steps(objects, programs)

    @property
    def objects(self):
        """The pairs of a kind and a state of all objects."""
        return self._objects

    @property
    def programs(self):
        """The programs of all threads."""
        return self._programs

    @property
    def rows(self):
        """The number of the rows of all programs."""
        return sum([len(program) for program in self._programs])

    def steps(self):
        """The steps of the threads."""
        return self._steps

    def objects_of(self, thread):
        """The objects in rows of a thread, ascending."""
        self._need_thread(thread)
        return self._programs[thread].objects_used()

    def with_program(self, thread, program):
        """The system with another program for a thread."""
        self._need_thread(thread)
        return System(self._objects, (*self._programs[:thread], program, *self._programs[thread + 1:]))

    def opposite(self):
        """The system with all programs opposite."""
        return System(self._objects, tuple([program.opposite() for program in self._programs]))

    def _need_thread(self, thread):
        need_number(thread, 0, len(self._programs) - 1)

    def __len__(self):
        return len(self._programs)

    def __eq__(self, other):
        return isinstance(other, System) and self._objects == other._objects and self._programs == other._programs

    def __str__(self):
        return f"system of {len(self._programs)} threads, {len(self._objects)} objects"
