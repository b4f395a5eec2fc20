"""All moments to which runs with some inputs come, and what can be said of them [9.1], [9.2]."""

from teamtells.errors import TooMany

# Faults are looked for with at most so many deeds, and at most so many threads in a round.
MOST_DEEDS = 900


class Reach:
    """The reached moments with some inputs, numbered as they are met: those behind fewer deeds ahead.

    There are at most so many as the limit: TooMany otherwise.
    """

    def __init__(self, system, inputs, restarts, limit):
        self._steps = system.steps()
        self._inputs = inputs
        self._limit = limit
        first = self._steps.first(inputs)
        self._moments = [first]
        self._numbers = {first: 0}
        # How each moment was met: the number of the one ahead, and the deed.
        self._ways = [(0, None)]
        # For each moment its steps, as pairs (thread, number of the moment behind).
        self._behind = []
        while len(self._behind) < len(self._moments):
            self._go_on(len(self._behind), restarts)

    def _go_on(self, here, restarts):
        """Meet what is behind the moment with this number."""
        moment = self._moments[here]
        behind = []
        for thread in range(len(self._inputs)):
            if self._steps.decision(moment, thread) is None:
                behind.append((thread, self._met(self._steps.after(moment, thread), here, thread)))
            if restarts:
                self._met(self._steps.restarted(moment, thread, self._inputs), here, ("restart", thread))
        self._behind.append(behind)

    def _met(self, moment, ahead, deed):
        """The number of a moment, which gets one if it is new."""
        if moment not in self._numbers:
            if len(self._moments) == self._limit:
                raise TooMany(self._limit)
            self._numbers[moment] = len(self._moments)
            self._moments.append(moment)
            self._ways.append((ahead, deed))
        return self._numbers[moment]

    def moments(self):
        """All moments, ascending."""
        return sorted(self._moments)

    def height(self):
        """The greatest number of steps from the first moment on, or None if a moment or a round shows a fault."""
        heights = self._right_heights()
        return None if heights is None else heights[0]

    def paper(self):
        """A dict from all moments, ascending, to the greatest number of steps from each of them on, or None."""
        heights = self._right_heights()
        if heights is None:
            return None
        return {moment: heights[self._numbers[moment]] for moment in self.moments()}

    def _right_heights(self):
        """For each moment the greatest number of steps from it on, or None if a moment or a round shows a fault."""
        if self._is_wrong():
            return None
        # All moments are asked: a round behind a restart alone is none that steps reach from the first one.
        heights = self._heights({})
        return None if None in heights else heights

    def _is_wrong(self):
        """Whether the decisions of some moment are wrong."""
        return any([self._fault_at(moment) is not None for moment in self._moments])

    def _fault_at(self, moment):
        """What is wrong with the decisions of a moment, or None."""
        if len(moment[2]) > 1:
            return "unlike"
        return None if all([decision in self._inputs for decision in moment[2]]) else "strange"

    def _heights(self, cut):
        """For each moment the greatest number of steps from it on, or None if rounds are reached by some of these.

        No step is taken from moments that are cut off.
        """
        heights = [None] * len(self._moments)
        left = [0 if number in cut else len(behind) for number, behind in enumerate(self._behind)]
        ahead = self._ahead()
        ready = [number for number, many in enumerate(left) if many == 0]
        while ready:
            number = ready.pop()
            behind = [] if number in cut else self._behind[number]
            heights[number] = max([heights[other] + 1 for _, other in behind], default=0)
            for other in ahead[number]:
                left[other] -= 1
                if left[other] == 0:
                    ready.append(other)
        return heights

    def _ahead(self):
        """For each moment those from which a step leads to it."""
        ahead = [[] for _ in self._moments]
        for number, behind in enumerate(self._behind):
            for _, other in behind:
                ahead[other].append(number)
        return ahead

    def critical_way(self):
        """A shortest way to a moment that is open, and is not behind any step more, or None."""
        leading = [self._leading_to(decision) for decision in (0, 1)]
        for number, behind in enumerate(self._behind):
            if _is_open(leading, number) and not any([_is_open(leading, other) for _, other in behind]):
                return self._deeds(number)
        return None

    def _leading_to(self, decision):
        """A dict with the moments at which there is a decision, or from which steps lead to it."""
        ahead = self._ahead()
        waiting = [number for number, moment in enumerate(self._moments) if decision in moment[2]]
        met = {number: True for number in waiting}
        while waiting:
            for number in ahead[waiting.pop()]:
                if number not in met:
                    met[number] = True
                    waiting.append(number)
        return met

    def fault(self):
        """A fault, or None. It is a short one, as MOST_DEEDS tells, if there is one."""
        fault = self._wrong_decision()
        if fault is not None and len(fault[2]) <= MOST_DEEDS:
            return fault
        ring = self._round()
        return fault if ring is None else ring

    def _wrong_decision(self):
        """A fault that is no round, with as few deeds as can be, or None."""
        for number, moment in enumerate(self._moments):
            fault = self._fault_at(moment)
            if fault is not None:
                return fault, self._inputs, self._deeds(number)
        return None

    def _round(self):
        """A fault that is a round, or None."""
        first = None
        cut = {}
        core = self._core(cut)
        while core:
            # Moments are numbered as they are met, so that none of the core has fewer deeds ahead.
            home = core[0]
            deeds = self._deeds(home)
            ring = self._ring(home, core)
            if ring is not None and max(len(deeds), len(ring)) <= MOST_DEEDS:
                return "round", self._inputs, deeds, ring
            if ring is not None and first is None:
                first = ("round", self._inputs, deeds, ring)
            if first is not None and len(deeds) > MOST_DEEDS:
                return first
            # No short round goes through this moment, so that none is missed without it.
            cut[home] = True
            core = self._core(cut)
        return first

    def _core(self, cut):
        """The moments in rounds and between rounds, ascending, without those that are cut off."""
        heights = self._heights(cut)
        ahead = [0] * len(self._moments)
        for number in range(len(ahead)):
            for other in self._endless_behind(number, heights):
                ahead[other] += 1
        ready = [number for number, many in enumerate(ahead) if many == 0 and heights[number] is None]
        met = {number: True for number in ready}
        while ready:
            number = ready.pop()
            for other in self._endless_behind(number, heights):
                ahead[other] -= 1
                if ahead[other] == 0:
                    ready.append(other)
                    met[other] = True
        return [number for number, height in enumerate(heights) if height is None and number not in met]

    def _endless_behind(self, number, heights):
        """The moments behind one from which rounds are reached, if one is reached from it."""
        if heights[number] is not None:
            return []
        return [other for _, other in self._behind[number] if heights[other] is None]

    def _ring(self, home, core):
        """The threads of a shortest round at a moment, which never leaves the core, or None."""
        inside = {number: True for number in core}
        ways = {}
        waiting = [home]
        while waiting and home not in ways:
            found = []
            # A copy is walked, as the list that grows here is the one that waits from the next time on.
            for number in list(waiting):
                for thread, other in self._behind[number]:
                    if other in inside and other not in ways:
                        ways[other] = (number, thread)
                        found.append(other)
            waiting = found
        return self._threads_back(home, ways) if home in ways else None

    def _threads_back(self, home, ways):
        """The threads of the round by which a moment was met again."""
        number, thread = ways[home]
        threads = [thread]
        while number != home:
            number, thread = ways[number]
            threads.append(thread)
        return tuple(threads[::-1])

    def _deeds(self, number):
        """The deeds that lead to a moment."""
        deeds = []
        while number > 0:
            number, deed = self._ways[number]
            deeds.append(deed)
        return tuple(deeds[::-1])


def _is_open(leading, number):
    """Whether steps lead from a moment to each of the decisions."""
    return all([number in met for met in leading])
