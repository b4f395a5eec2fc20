"""Kinds of objects that are often used."""

from teamtells.base.kinds import Kind
from teamtells.base.values import need_number

LETTERS = "abcdefgh"
QUEUE_WORDS = ("", "a", "b", "aa", "ab", "ba", "bb")


def _lettered(word, rows):
    """The kind with these rows, whose operations have the word and one letter behind the other as names."""
    return Kind({word + LETTERS[index]: row for index, row in enumerate(rows)})


def cell_kind(many):
    """A cell with so many values: each operation puts one of them."""
    need_number(many, 1, 6)
    return _lettered("put", [((value, 0),) * many for value in range(many)])


def flag_kind():
    """A flag that is set once, and tells whether it was."""
    return Kind({"set": ((1, 0), (1, 1))})


def adder_kind(many):
    """A counter of so many states that goes round, and tells what it was."""
    need_number(many, 2, 12)
    return Kind({"add": tuple([((state + 1) % many, state) for state in range(many)])})


def swap_kind(many):
    """A cell with so many values: each operation puts one of them, and tells what was there."""
    need_number(many, 2, 6)
    return _lettered("swap", [tuple([(value, state) for state in range(many)]) for value in range(many)])


def slot_kind(many):
    """A slot for one of so many values: the first one stays, and each operation tells it."""
    need_number(many, 1, 6)
    kept = tuple([(state, state) for state in range(1, many + 1)])
    return _lettered("set", [(pair, *kept) for pair in kept])


def fading_kind(many):
    """A slot for two values that remembers the first one for so many operations."""
    need_number(many, 1, 5)
    later = tuple([(_faded(state, many), 0) for state in range(1, 2 * many + 2)])
    return _lettered("set", [((1, 0), *later), ((many + 1, 0), *later)])


def _faded(state, many):
    """The state of a fading kind behind one that is not empty."""
    forgotten = 2 * many + 1
    if state == many:
        return forgotten
    return min(state + 1, forgotten)


def queue_kind(many):
    """A queue of the letters a and b, of at most so many letters."""
    need_number(many, 1, 2)
    words = [word for word in QUEUE_WORDS if len(word) <= many]
    # The answers for no letter, a and b are just the states of these words.
    leave = tuple([(words.index(word[1:]), words.index(word[:1])) for word in words])
    return Kind({"joina": _join_row(words, many, "a"), "joinb": _join_row(words, many, "b"), "leave": leave})


def _join_row(words, many, letter):
    """The row of the operation that puts a letter behind, or changes nothing if the queue is full."""
    longer = [word + letter if len(word) < many else word for word in words]
    return tuple([(words.index(word), 0) for word in longer])


def highest_kind(many):
    """A number of so many: each operation raises it at least to its own one."""
    need_number(many, 2, 6)
    return _lettered("raise", [tuple([(max(state, least), 0) for state in range(many)]) for least in range(many)])
