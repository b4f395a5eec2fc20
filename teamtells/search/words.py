"""Words of endless plans [6.2]: who does its operation when, with as many threads in team 0 as are needed.

An endless plan is asked about by its start and its rows: a dict with the row of the operation of `o` and of `p`.
"""

MOST_LETTERS = 200
CAPITALS = ("O", "P")
# The letters with which a word of each team begins.
FIRSTS = (("o", "O"), ("p", "P"))


def rows_of(kind, one, other):
    """What the letters do for the threads of an endless plan."""
    table = kind.operations
    return {"o": table[one], "p": table[other]}


def confused_words(rows, start):
    """An endless confusion of shortest words, or None."""
    for capital in CAPITALS:
        one = _words(rows, start, capital, 1)
        for sight, word in _words(rows, start, capital, 0).items():
            if sight in one:
                return word, one[sight]
    return None


def _words(rows, start, capital, team):
    """A dict from the pairs (answer, state) that the thread with the capital sees to shortest words of the team."""
    first = (start, None, capital == "O")
    words = {spot: letter for letter, spot in _steps(rows, capital, first) if letter in FIRSTS[team]}
    waiting = list(words)
    while waiting:
        found = {}
        for spot in waiting:
            for letter, behind in _steps(rows, capital, spot):
                if behind not in words and behind not in found:
                    found[behind] = words[spot] + letter
        words.update(found)
        waiting = list(found)
    sights = {}
    for state, answer, free in words:
        if answer is not None:
            sights.setdefault((answer, state), words[state, answer, free])
    return sights


def _steps(rows, capital, spot):
    """The pairs (letter, spot behind it) for all letters that can stand next in a word.

    A spot is the state, the answer that the thread with the capital got, or None, and whether a small p can come.
    """
    state, answer, free = spot
    steps = [("o", (rows["o"][state][0], answer, free))]
    if answer is None:
        behind, told = rows[capital.lower()][state]
        steps.append((capital, (behind, told, free)))
    if free:
        steps.append(("p", (rows["p"][state][0], answer, False)))
    return steps


def are_confused_words(rows, start, value):
    """Whether the value is an endless confusion, of words of at most 200 letters."""
    if not isinstance(value, tuple) or len(value) != 2:
        return False
    if not _is_word(value[0], 0) or not _is_word(value[1], 1):
        return False
    return _sight(rows, start, value[0]) == _sight(rows, start, value[1])


def _is_word(value, team):
    """Whether the value is a word that the team begins."""
    if not isinstance(value, str) or not 1 <= len(value) <= MOST_LETTERS:
        return False
    if value[0] not in FIRSTS[team] or not all([letter in "opOP" for letter in value]):
        return False
    return value.count("O") + value.count("P") == 1 and value.count("p") + value.count("P") <= 1


def _sight(rows, start, word):
    """The capital of a word, and the pair that its thread sees behind it."""
    state = start
    sight = None
    for letter in word:
        state, answer = rows[letter.lower()][state]
        if letter in CAPITALS:
            sight = (letter, answer)
    return sight, state
