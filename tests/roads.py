"""What the document says of large systems, found by a plain walk through all their moments, each met once."""

from tests.systems import inputs_of


class Roads:
    """All moments that are reached with some inputs, and for each of them its steps by threads."""

    def __init__(self, system, inputs, restarts=False):
        self.system = system
        self.inputs = inputs
        self.rows = [program.rows for program in system.programs]
        self.tables = [kind.operations for kind, _ in system.objects]
        self.starts = tuple(program.starts[number] for program, number in zip(system.programs, inputs))
        self.first = self.with_decisions(tuple(state for _, state in system.objects), self.starts, ())
        self.steps = {}
        self.met_from = {self.first: None}
        waiting = [self.first]
        for moment in waiting:
            self.steps[moment] = self.steps_from(moment)
            found = list(self.steps[moment].items())
            if restarts:
                found += [(("restart", thread), self.restarted(moment, thread)) for thread in range(len(system))]
            for deed, behind in found:
                if behind not in self.met_from:
                    self.met_from[behind] = (moment, deed)
                    waiting.append(behind)

    def way_to(self, moment):
        """A shortest way to a moment; its deeds, where restarts are let."""
        deeds = []
        while self.met_from[moment] is not None:
            moment, deed = self.met_from[moment]
            deeds.append(deed)
        return tuple(reversed(deeds))

    def with_decisions(self, states, rows, decided):
        now = [self.rows[thread][row][1] for thread, row in enumerate(rows) if self.rows[thread][row][0] == "decide"]
        return states, rows, tuple(sorted({*now, *decided}))

    def steps_from(self, moment):
        """A dict from the active threads to the moments behind their steps."""
        found = {}
        for thread, index in enumerate(moment[1]):
            row = self.rows[thread][index]
            if row[0] == "decide":
                continue
            states = list(moment[0])
            if row[0] == "read":
                told = states[row[1]]
            else:
                states[row[1]], told = self.tables[row[1]][row[2]][states[row[1]]]
            rows = moment[1][:thread] + (row[-1][told],) + moment[1][thread + 1:]
            found[thread] = self.with_decisions(tuple(states), rows, moment[2])
        return found

    def restarted(self, moment, thread):
        rows = moment[1][:thread] + (self.starts[thread],) + moment[1][thread + 1:]
        return self.with_decisions(moment[0], rows, moment[2])

    def behind(self, way):
        """The moment behind a way, or None if there is no such way."""
        moment = self.first
        for thread in way:
            moment = self.steps[moment].get(thread)
            if moment is None:
                return None
        return moment

    def ahead(self):
        """For each moment the set of the decisions ahead."""
        found = {moment: set(moment[2]) for moment in self.steps}
        sources = {}
        for moment, steps in self.steps.items():
            for behind in steps.values():
                sources.setdefault(behind, []).append(moment)
        waiting = list(found)
        while waiting:
            behind = waiting.pop()
            for moment in sources.get(behind, []):
                if not found[behind] <= found[moment]:
                    found[moment] |= found[behind]
                    waiting.append(moment)
        return found

    def critical(self):
        """The critical moments, in the order in which they were met."""
        ahead = self.ahead()
        return [
            moment for moment in self.steps if len(ahead[moment]) == 2
            and not any(len(ahead[behind]) == 2 for behind in self.steps[moment].values())
        ]

    def is_right(self):
        """Whether no moment and no round shows a fault."""
        if any(len(moment[2]) > 1 or set(moment[2]) - set(self.inputs) for moment in self.steps):
            return False
        left = {moment: len(steps) for moment, steps in self.steps.items()}
        sources = {}
        for moment, steps in self.steps.items():
            for behind in steps.values():
                sources.setdefault(behind, []).append(moment)
        ready = [moment for moment, many in left.items() if many == 0]
        for behind in ready:
            for moment in sources.get(behind, []):
                left[moment] -= 1
                if left[moment] == 0:
                    ready.append(moment)
        return len(ready) == len(left)


def all_roads(system, restarts=False):
    return [Roads(system, inputs, restarts) for inputs in inputs_of(system)]
