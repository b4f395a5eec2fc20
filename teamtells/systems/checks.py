"""Whether systems are right [0.15], also with restarts [9.2], with papers for both answers."""

from teamtells.base.values import is_count, is_number_in
from teamtells.errors import InvalidOperation
from teamtells.systems.programs import need_system
from teamtells.systems.reach import Reach
from teamtells.systems.runs import Run, are_inputs, is_configuration, need_inputs

MAX_MOMENTS = 20000
MOST_FAULT_DEEDS = 2000


def _need_truth(restarts):
    if not isinstance(restarts, bool):
        raise InvalidOperation("restarts is no boolean")


def all_inputs(system):
    """All inputs of a system, ascending."""
    rows = [()]
    for _ in range(len(system)):
        rows = [(*row, number) for row in rows for number in (0, 1)]
    return rows


def reach_of(system, inputs, restarts):
    """All that runs with these inputs reach: TooMany if there are too many moments."""
    return Reach(system, inputs, restarts, MAX_MOMENTS)


def reached_moments(system, inputs, *, restarts=False):
    """All reached moments, ascending."""
    need_system(system)
    need_inputs(system, inputs)
    _need_truth(restarts)
    return tuple(reach_of(system, inputs, restarts).moments())


def is_right(system, *, restarts=False):
    """Whether the system is right."""
    need_system(system)
    _need_truth(restarts)
    return None not in _heights(system, restarts)


def _heights(system, restarts):
    """For all inputs the greatest number of steps of a run, or None if these show that the system is not right."""
    # All inputs are gone through, even behind such that show a fault: any of them can reach too many moments.
    return [reach_of(system, inputs, restarts).height() for inputs in all_inputs(system)]


def found_fault(system, *, restarts=False):
    """A fault, or None if the system is right."""
    need_system(system)
    _need_truth(restarts)
    faults = [reach_of(system, inputs, restarts).fault() for inputs in all_inputs(system)]
    found = [fault for fault in faults if fault is not None]
    return min(found, key=_longest_part) if found else None


def _longest_part(fault):
    """The number of deeds, or of the threads in a round, of a fault: the greater one."""
    return max([len(part) for part in fault[2:]])


def is_fault(system, value, *, restarts=False):
    """Whether the value is a fault."""
    need_system(system)
    _need_truth(restarts)
    if not isinstance(value, tuple) or not 3 <= len(value) <= 4 or not are_inputs(system, value[1]):
        return False
    run = Run(system, value[1])
    if not _is_done(run, value[2], restarts):
        return False
    if len(value) == 4:
        return value[0] == "round" and _is_round(run, value[3])
    if value[0] == "unlike":
        return len(run.decided) > 1
    return value[0] == "strange" and not all([decision in run.inputs for decision in run.decided])


def _is_done(run, deeds, restarts):
    """Whether the value is a tuple of deeds, not too many, that the run could do, and did."""
    return isinstance(deeds, tuple) and len(deeds) <= MOST_FAULT_DEEDS and run.tried(deeds, restarts)


def _is_round(run, threads):
    """Whether the value is a tuple of threads, not too many, whose steps led back to where the run was."""
    before = run.configuration
    return _is_done(run, threads, False) and len(threads) > 0 and run.configuration == before


def right_paper(system, *, restarts=False):
    """A paper that the system is right."""
    need_system(system)
    _need_truth(restarts)
    paper = {inputs: reach_of(system, inputs, restarts).paper() for inputs in all_inputs(system)}
    if any([part is None for part in paper.values()]):
        raise InvalidOperation("the system is not right")
    return paper


def is_right_paper(system, value, *, restarts=False):
    """Whether the value is a paper that the system is right."""
    need_system(system)
    _need_truth(restarts)
    if not isinstance(value, dict) or not all([are_inputs(system, inputs) for inputs in value]):
        return False
    # Keys differ from each other, so as many as there are inputs are all of them.
    if len(value) != len(all_inputs(system)):
        return False
    return all([_is_part(system, inputs, value[inputs], restarts) for inputs in value])


def _is_part(system, inputs, value, restarts):
    """Whether the value is the part for some inputs of a paper that the system is right."""
    if not isinstance(value, dict):
        return False
    if not all([_is_moment(system, moment) and is_count(number) for moment, number in value.items()]):
        return False
    if system.steps().first(inputs) not in value:
        return False
    return all([_is_held(system, inputs, value, moment, restarts) for moment in value])


def _is_moment(system, value):
    """Whether the value is a moment of the system, reached or not."""
    if not isinstance(value, tuple) or len(value) != 3 or not is_configuration(system, value[:2]):
        return False
    decided = value[2]
    return isinstance(decided, tuple) and all([is_number_in(decision, 0, 1) for decision in decided])


def _is_held(system, inputs, part, moment, restarts):
    """Whether a part has at one of its moments what a paper must have there."""
    steps = system.steps()
    decided = moment[2]
    if len(decided) > 1 or not all([decision in inputs for decision in decided]):
        return False
    for thread in range(len(system)):
        decision = steps.decision(moment, thread)
        if decision is not None and decision not in decided:
            return False
        if decision is None and not _is_lower(part, steps.after(moment, thread), part[moment]):
            return False
        if restarts and steps.restarted(moment, thread, inputs) not in part:
            return False
    return True


def _is_lower(part, moment, number):
    """Whether a moment has a lesser number."""
    return moment in part and part[moment] < number


def longest(system):
    """The greatest number of steps of a run without restarts."""
    need_system(system)
    heights = _heights(system, False)
    if None in heights:
        raise InvalidOperation("the system is not right")
    return max(heights)
