"""Runs of systems, step by step [8.1]."""

from teamtells.base.values import is_number_in, need_count, need_number
from teamtells.errors import InvalidInputs, InvalidOperation, NothingToUndo
from teamtells.systems.programs import need_system

MOST_ALONE = 1000


def are_inputs(system, value):
    """Whether the value has 0 or 1 for each thread."""
    if not isinstance(value, tuple) or len(value) != len(system):
        return False
    return all([is_number_in(number, 0, 1) for number in value])


def need_inputs(system, value):
    """Raise InvalidInputs if the value has not 0 or 1 for each thread."""
    if not are_inputs(system, value):
        raise InvalidInputs("not 0 or 1 for each thread")


def is_configuration(system, value):
    """Whether the value is a configuration of the system, reached or not."""
    need_system(system)
    if not isinstance(value, tuple) or len(value) != 2:
        return False
    sizes = [kind.size for kind, _ in system.objects]
    return _are_numbers(value[0], sizes) and _are_numbers(value[1], [len(program) for program in system.programs])


def _are_numbers(value, sizes):
    """Whether the value is a tuple of a number below each of these sizes."""
    if not isinstance(value, tuple) or len(value) != len(sizes):
        return False
    return all([is_number_in(number, 0, size - 1) for number, size in zip(value, sizes)])


def first_configuration(system, inputs):
    """The configuration at the beginning of a run."""
    need_system(system)
    need_inputs(system, inputs)
    return system.steps().first(inputs)[:2]


def next_configuration(system, configuration, thread):
    """The configuration behind a step of a thread."""
    if not is_configuration(system, configuration):
        raise InvalidInputs("not a configuration of the system")
    need_number(thread, 0, len(system) - 1)
    moment = (*configuration, ())
    if system.steps().decision(moment, thread) is not None:
        raise InvalidOperation("the thread has decided")
    return system.steps().after(moment, thread)[:2]


class Run:
    """A run of a system. What was done is kept, so that it can be taken back."""

    def __init__(self, system, inputs):
        need_system(system)
        need_inputs(system, inputs)
        self._system = system
        self._inputs = inputs
        self._steps = system.steps()
        self._moments = [self._steps.first(inputs)]
        self._trail = []
        self._replies = []

    @property
    def system(self):
        """The system."""
        return self._system

    @property
    def inputs(self):
        """The inputs of the threads."""
        return self._inputs

    @property
    def configuration(self):
        """The states of the objects and the rows of the threads now."""
        return self._moments[-1][:2]

    @property
    def moment(self):
        """The configuration now, and the decisions of all times, as one triple."""
        return self._moments[-1]

    @property
    def trail(self):
        """The deeds that were done."""
        return tuple(self._trail)

    @property
    def replies(self):
        """What each deed told: an answer or a state, or None for a restart."""
        return tuple(self._replies)

    @property
    def active(self):
        """The threads that have not decided, ascending."""
        return tuple([thread for thread, decision in enumerate(self.decisions) if decision is None])

    @property
    def decisions(self):
        """The decision of each thread now, or None."""
        moment = self._moments[-1]
        return tuple([self._steps.decision(moment, thread) for thread in range(len(self._system))])

    @property
    def decided(self):
        """The decisions of all threads at all times of the run, ascending."""
        return self._moments[-1][2]

    def go(self, thread):
        """Do a step of a thread; what it tells."""
        self._need_thread(thread)
        if not self._can_do(thread):
            raise InvalidOperation("the thread has decided")
        return self._done(thread)

    def restart(self, thread):
        """Lead a thread to its first row; the number of this row."""
        self._need_thread(thread)
        self._done(("restart", thread))
        return self._moments[-1][1][thread]

    def alone(self, thread, *, most=100):
        """Do steps of a thread until it has decided, at most so many; how many."""
        self._need_thread(thread)
        need_number(most, 0, MOST_ALONE)
        many = 0
        while many < most and self._can_do(thread):
            self._done(thread)
            many += 1
        return many

    def follow(self, deeds):
        """Do all deeds; what each of them told."""
        before = len(self._trail)
        if not self.tried(deeds, True):
            self._take_back(len(self._trail) - before)
            raise InvalidOperation("not a tuple of deeds that can be done")
        return tuple(self._replies[before:])

    def tried(self, deeds, restarts):
        """Do deeds up to the first one that cannot be done; whether all were done, and were a tuple.

        Restarts cannot be done unless they are let.
        """
        if not isinstance(deeds, tuple):
            return False
        for deed in deeds:
            if not restarts and isinstance(deed, tuple) or not self._can_do(deed):
                return False
            self._done(deed)
        return True

    def undo(self, *, many=1):
        """Take the last deeds back; these, the last one first."""
        need_count(many)
        if many > len(self._trail):
            raise NothingToUndo(many)
        return self._take_back(many)

    def twin(self):
        """An equal run that goes on by itself."""
        other = Run(self._system, self._inputs)
        other.follow(tuple(self._trail))
        return other

    def _need_thread(self, thread):
        need_number(thread, 0, len(self._system) - 1)

    def _is_thread(self, value):
        return is_number_in(value, 0, len(self._system) - 1)

    def _can_do(self, deed):
        """Whether the value is a deed that can be done now."""
        if isinstance(deed, tuple):
            return len(deed) == 2 and deed[0] == "restart" and self._is_thread(deed[1])
        return self._is_thread(deed) and self._steps.decision(self._moments[-1], deed) is None

    def _done(self, deed):
        """Do a deed that can be done; what it tells."""
        moment = self._moments[-1]
        if isinstance(deed, tuple):
            reply = None
            self._moments.append(self._steps.restarted(moment, deed[1], self._inputs))
        else:
            reply = self._steps.told(moment, deed)
            self._moments.append(self._steps.after(moment, deed))
        self._trail.append(deed)
        self._replies.append(reply)
        return reply

    def _take_back(self, many):
        """Take so many deeds back; these, the last one first."""
        back = []
        for _ in range(many):
            back.append(self._trail.pop())
            self._replies.pop()
            self._moments.pop()
        return tuple(back)

    def __bool__(self):
        return any([decision is None for decision in self.decisions])

    def __len__(self):
        return len(self._trail)

    def __eq__(self, other):
        if not isinstance(other, Run):
            return False
        return self._system == other._system and self._inputs == other._inputs and self._trail == other._trail

    def __str__(self):
        return f"run of {len(self._system)} threads: {len(self._trail)} deeds, {len(self.active)} active"
