"""Steps of threads: what the rows of programs do, laid out so that a step is quick."""


class Steps:
    """The steps of the threads of a system, from moments (states, rows, decided) [9.1] to moments."""

    def __init__(self, objects, programs):
        self._states = tuple([state for _, state in objects])
        self._starts = [program.starts for program in programs]
        self._rows = [[_laid_out(row, objects) for row in program.rows] for program in programs]

    def first(self, inputs):
        """The moment at the beginning of a run."""
        rows = tuple([starts[number] for starts, number in zip(self._starts, inputs)])
        decided = ()
        for thread, row in enumerate(rows):
            decided = self._with_decision(decided, thread, row)
        return self._states, rows, decided

    def decision(self, moment, thread):
        """The number for which a thread has decided, or None if it is active."""
        return self._rows[thread][moment[1][thread]][0]

    def told(self, moment, thread):
        """What the next step of an active thread tells: an answer or a state."""
        _, place, outcomes = self._rows[thread][moment[1][thread]]
        return outcomes[moment[0][place]][2]

    def after(self, moment, thread):
        """The moment behind a step of an active thread."""
        states, rows, decided = moment
        _, place, outcomes = self._rows[thread][rows[thread]]
        state, row, _ = outcomes[states[place]]
        if state != states[place]:
            states = (*states[:place], state, *states[place + 1:])
        return states, (*rows[:thread], row, *rows[thread + 1:]), self._with_decision(decided, thread, row)

    def restarted(self, moment, thread, inputs):
        """The moment behind a restart of a thread."""
        states, rows, decided = moment
        row = self._starts[thread][inputs[thread]]
        return states, (*rows[:thread], row, *rows[thread + 1:]), self._with_decision(decided, thread, row)

    def _with_decision(self, decided, thread, row):
        """The decisions of all times, with that of a thread that comes to a row."""
        decision = self._rows[thread][row][0]
        if decision is None or decision in decided:
            return decided
        return tuple(sorted([*decided, decision]))


def _laid_out(row, objects):
    """The triple (decision, object, outcomes) of a row: (next state, next row, what it tells) for each state."""
    if row[0] == "decide":
        return row[1], None, None
    kind = objects[row[1]][0]
    moves = row[-1]
    if row[0] == "read":
        return None, row[1], [(state, moves[state], state) for state in range(kind.size)]
    return None, row[1], [(state, moves[answer], answer) for state, answer in kind.operations[row[2]]]
