"""What threads see behind orders [0.10], found without a walk through all orders.

A set of states is kept as an integer with the bit `state` for each of them, a set of pairs (answer, state) as one with
the bit `answer * size + state`. What is left to do is an ascending tuple of names, as threads with the same operation
do the same.
"""


def lowest_bit(bits):
    """The number of the lowest bit."""
    return (bits & -bits).bit_length() - 1


def all_bits(bits):
    """The numbers of all bits, ascending."""
    return [number for number in range(bits.bit_length()) if bits >> number & 1]


def _choices(names):
    """The pairs (name, the other names) for each different name of an ascending tuple."""
    places = [place for place in range(len(names)) if place == 0 or names[place - 1] != names[place]]
    return [(names[place], names[:place] + names[place + 1:]) for place in places]


def _without(threads, thread):
    return tuple([other for other in threads if other != thread])


class Sights:
    """What operations of one kind lead to and tell. It keeps what it found, as plans have many parts in common."""

    def __init__(self, kind):
        self._rows = kind.operations
        self._size = kind.size
        self._later = {}
        self._seen = {}

    def step(self, state, name):
        """The pair (next state, answer) of an operation."""
        return self._rows[name][state]

    def bit(self, answer, state):
        """The number of a pair (answer, state)."""
        return answer * self._size + state

    def pair(self, bit):
        """The pair (answer, state) with this number."""
        return bit // self._size, bit % self._size

    def later(self, state, names):
        """The states to which any of the operations lead, in any order, this one included."""
        key = (state, names)
        if key not in self._later:
            bits = 1 << state
            for name, rest in _choices(names):
                bits |= self.later(self._rows[name][state][0], rest)
            self._later[key] = bits
        return self._later[key]

    def seen_now(self, state, names, name):
        """The pairs that a thread sees if it does its operation now, and any of the others go on."""
        behind, answer = self._rows[name][state]
        return self.later(behind, names) << answer * self._size

    def seen(self, state, names, name):
        """The pairs that a thread sees if it does its operation now or behind any of the others."""
        key = (state, names, name)
        if key not in self._seen:
            bits = self.seen_now(state, names, name)
            for other, rest in _choices(names):
                bits |= self.seen(self._rows[other][state][0], rest, name)
            self._seen[key] = bits
        return self._seen[key]


class View:
    """What is behind the orders of one plan."""

    def __init__(self, plan, sights):
        many = len(plan.teams[0])
        self._names = plan.threads
        self._start = plan.start
        self._all = tuple(range(len(plan)))
        self._teams = (self._all[:many], self._all[many:])
        self._sights = sights

    def states(self, team):
        """The states behind the orders that the team began."""
        bits = 0
        for first in self._teams[team]:
            bits |= self._sights.later(self._behind(self._start, first), self._left(_without(self._all, first)))
        return bits

    def pairs(self, thread, team):
        """The pairs that a thread sees behind the orders that the team began."""
        name = self._names[thread]
        others = _without(self._all, thread)
        bits = 0
        for first in self._teams[team]:
            if first == thread:
                bits |= self._sights.seen_now(self._start, self._left(others), name)
            else:
                state = self._behind(self._start, first)
                bits |= self._sights.seen(state, self._left(_without(others, first)), name)
        return bits

    def unclear(self, thread):
        """The pairs that a thread sees behind orders of both teams."""
        return self.pairs(thread, 0) & self.pairs(thread, 1)

    def tells(self):
        """Whether the plan tells."""
        for thread in self._all:
            if self.unclear(thread):
                return False
        return True

    def confusion(self):
        """A confusion of the plan, or None if it tells."""
        for thread in self._all:
            unclear = self.unclear(thread)
            if unclear:
                bit = lowest_bit(unclear)
                return thread, self._order_seeing(thread, bit, 0), self._order_seeing(thread, bit, 1)
        return None

    def order_to(self, state, team):
        """An order that the team began behind which the object is in the state."""
        return self._way_to(self._start, self._all, state, self._teams[team])

    def _order_seeing(self, thread, bit, team):
        """An order that the team began behind which the thread sees the pair with this number."""
        state = self._start
        rest = self._all
        options = self._teams[team]
        order = []
        while thread in rest:
            first = self._first_towards(state, rest, thread, bit, options)
            state = self._behind(state, first)
            rest = options = _without(rest, first)
            order.append(first)
        target = self._sights.pair(bit)[1]
        if state == target:
            return tuple(order)
        return (*order, *self._way_to(state, rest, target, rest))

    def _first_towards(self, state, rest, thread, bit, options):
        """The first option behind which the thread can come to see the pair with this number."""
        name = self._names[thread]
        others = _without(rest, thread)
        for first in options:
            if first == thread:
                bits = self._sights.seen_now(state, self._left(others), name)
            else:
                bits = self._sights.seen(self._behind(state, first), self._left(_without(others, first)), name)
            if bits >> bit & 1:
                return first
        return None

    def _way_to(self, state, rest, target, options):
        """One or more threads out of the rest that lead from a state to the target, an option first."""
        for first in options:
            behind = self._behind(state, first)
            left = _without(rest, first)
            if behind == target:
                return (first,)
            if self._sights.later(behind, self._left(left)) >> target & 1:
                return (first, *self._way_to(behind, left, target, left))
        return None

    def _behind(self, state, thread):
        """The state behind the operation of a thread."""
        return self._sights.step(state, self._names[thread])[0]

    def _left(self, threads):
        """What the threads have to do."""
        return tuple(sorted([self._names[thread] for thread in threads]))


def view_of(plan):
    """The view of a plan by sights of its own."""
    return View(plan, Sights(plan.kind))
