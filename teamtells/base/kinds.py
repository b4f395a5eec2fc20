"""Kinds of objects [0.8], and how they are put side by side, cut and mapped."""

from teamtells.base.values import is_number_in, need_number
from teamtells.errors import InvalidKind, InvalidOperation, TooMany, UnknownName

ALPHABET = "abcdefghijklmnopqrstuvwxyz"
MAX_LETTERS = 8
MAX_STATES = 12
MAX_OPERATIONS = 6
MAX_ANSWER = 99


def is_name(value):
    """Whether the value is a name [0.7]."""
    if not isinstance(value, str) or not 1 <= len(value) <= MAX_LETTERS:
        return False
    return all([letter in ALPHABET for letter in value])


def need_kind(value):
    """Raise InvalidKind if the value is no kind."""
    if not isinstance(value, Kind):
        raise InvalidKind("not a kind")


def _is_pair(value, size):
    """Whether the value is a pair (next state, answer) of a kind of so many states."""
    if not isinstance(value, tuple) or len(value) != 2:
        return False
    return is_number_in(value[0], 0, size - 1) and is_number_in(value[1], 0, MAX_ANSWER)


def _is_row(value, size):
    """Whether the value has a pair (next state, answer) for each of so many states."""
    if not isinstance(value, tuple) or len(value) != size:
        return False
    return all([_is_pair(pair, size) for pair in value])


def _is_table(value):
    """Whether the value is the dict of the operations of a kind."""
    if not isinstance(value, dict) or not 1 <= len(value) <= MAX_OPERATIONS:
        return False
    first = list(value.values())[0]
    if not isinstance(first, tuple) or not 1 <= len(first) <= MAX_STATES:
        return False
    return all([is_name(name) and _is_row(row, len(first)) for name, row in value.items()])


def _is_state_tuple(value, many, size):
    """Whether the value is a tuple of so many states of a kind with this size."""
    if not isinstance(value, tuple) or len(value) != many:
        return False
    return all([is_number_in(state, 0, size - 1) for state in value])


class Kind:
    """A kind of object: what each operation does in each state, and what it answers. It never changes."""

    def __init__(self, operations):
        if not _is_table(operations):
            raise InvalidKind("not a dict from names to rows for the same states")
        self._table = {name: operations[name] for name in sorted(operations)}
        self._size = len(list(self._table.values())[0])

    @property
    def operations(self):
        """A dict from the names of the operations to their rows."""
        return dict(self._table)

    @property
    def names(self):
        """The names of the operations, ascending."""
        return tuple(self._table)

    @property
    def size(self):
        """The number of states."""
        return self._size

    def after(self, state, name):
        """The pair (next state, answer) of an operation that is done in a state."""
        need_number(state, 0, self._size - 1)
        self._need_operation(name)
        return self._table[name][state]

    def answers(self, name):
        """The answers that an operation gives in some state, ascending."""
        self._need_operation(name)
        return tuple(sorted({pair[1] for pair in self._table[name]}))

    def reached(self, state):
        """The states to which operations lead from a state, itself included, ascending."""
        need_number(state, 0, self._size - 1)
        met = []
        waiting = [state]
        while waiting:
            here = waiting.pop()
            if here not in met:
                met.append(here)
                waiting.extend([row[here][0] for row in self._table.values()])
        return tuple(sorted(met))

    def with_operation(self, name, row):
        """The kind with an operation more, or in the place of the one with this name."""
        if not is_name(name) or not _is_row(row, self._size):
            raise InvalidOperation("not a name and a row for the states of the kind")
        if name not in self and len(self._table) == MAX_OPERATIONS:
            raise TooMany(MAX_OPERATIONS)
        return Kind({**self._table, name: row})

    def without(self, name):
        """The kind without an operation."""
        self._need_operation(name)
        if len(self._table) == 1:
            raise InvalidOperation("the only operation of the kind")
        return Kind({kept: row for kept, row in self._table.items() if kept != name})

    def renamed(self, names):
        """The kind with other names, by a dict from old names to new ones."""
        if not self._is_renaming(names):
            raise InvalidOperation("not a dict from operations to names that keeps all names different")
        return Kind({names.get(name, name): row for name, row in self._table.items()})

    def turned(self, numbers):
        """The kind in which state s has the number numbers[s]."""
        if not _is_state_tuple(numbers, self._size, self._size) or len(set(numbers)) != self._size:
            raise InvalidOperation("not a tuple with a new number for each state")
        states = [numbers.index(number) for number in range(self._size)]
        return _kind_over(self, states, numbers)

    def silent(self):
        """The kind with the answer 0 in the place of all answers."""
        return Kind({name: tuple([(pair[0], 0) for pair in row]) for name, row in self._table.items()})

    def _need_operation(self, name):
        if name not in self:
            raise UnknownName(name)

    def _is_renaming(self, names):
        if not isinstance(names, dict):
            return False
        if not all([name in self and is_name(names[name]) for name in names]):
            return False
        return len({names.get(name, name) for name in self._table}) == len(self._table)

    def __contains__(self, x):
        # What is no string may be no key at all, such as a list.
        return isinstance(x, str) and x in self._table

    def __len__(self):
        return len(self._table)

    def __eq__(self, other):
        return isinstance(other, Kind) and self._table == other._table

    def __str__(self):
        words = " ".join(self._table)
        return f"kind of {self._size} states: {words}"


def _kind_over(kind, states, numbers):
    """The kind whose state i stands for states[i] of this one; numbers[s] is the new number of state s."""
    return Kind({
        name: tuple([(numbers[row[state][0]], row[state][1]) for state in states])
        for name, row in kind.operations.items()
    })


def beside(one, other):
    """The kind with the states of both side by side."""
    need_kind(one)
    need_kind(other)
    if any([name in other for name in one.names]):
        raise InvalidOperation("an operation of both has the same name")
    if one.size * other.size > MAX_STATES:
        raise TooMany(MAX_STATES)
    if len(one) + len(other) > MAX_OPERATIONS:
        raise TooMany(MAX_OPERATIONS)
    table = {}
    for name, row in one.operations.items():
        table[name] = tuple([(pair[0] * other.size + kept, pair[1]) for pair in row for kept in range(other.size)])
    for name, row in other.operations.items():
        table[name] = tuple([(kept * other.size + pair[0], pair[1]) for kept in range(one.size) for pair in row])
    return Kind(table)


def cut_kind(kind, state):
    """The pair (smaller, states) of the kind that is left from a state on, and the states that its states stand for."""
    need_kind(kind)
    states = kind.reached(state)
    numbers = {old: number for number, old in enumerate(states)}
    return _kind_over(kind, states, numbers), states


def is_map(kind, other, value):
    """Whether the value is a map of the kind to the other one."""
    need_kind(kind)
    need_kind(other)
    if kind.names != other.names or not _is_state_tuple(value, kind.size, other.size):
        return False
    return all([_is_mapped(kind, other, value, name) for name in kind.names])


def _is_mapped(kind, other, value, name):
    """Whether an operation leads from mapped states to mapped next states with equal answers."""
    for state in range(kind.size):
        behind, answer = kind.after(state, name)
        if other.after(value[state], name) != (value[behind], answer):
            return False
    return True


def image_of(kind):
    """The pair (other, map) of the smallest kind to which all states can be mapped, and the map."""
    need_kind(kind)
    numbers = _classes(kind)
    firsts = [numbers.index(number) for number in range(max(numbers) + 1)]
    return _kind_over(kind, firsts, numbers), numbers


def _classes(kind):
    """For each state the number of its class: one class for states that no row of operations tells apart."""
    rows = list(kind.operations.values())
    numbers = _numbered([tuple([row[state][1] for row in rows]) for state in range(kind.size)])
    # Each round looks one operation further, and fewer rounds than there are states can still split a class.
    for _ in range(kind.size):
        numbers = _numbered([_mark(rows, numbers, state) for state in range(kind.size)])
    return numbers


def _mark(rows, numbers, state):
    """The class of a state, and the classes to which the operations lead from it."""
    return numbers[state], tuple([numbers[row[state][0]] for row in rows])


def _numbered(marks):
    """The tuple of numbers of the marks: equal ones for equal marks, in the order in which they come first."""
    firsts = []
    for mark in marks:
        if mark not in firsts:
            firsts.append(mark)
    return tuple([firsts.index(mark) for mark in marks])
