"""Critical moments [10.1]: both decisions are ahead, and any step settles which. Plans are read off there [10.2]."""

from teamtells.errors import InvalidOperation
from teamtells.plans.plans import Plan
from teamtells.systems.checks import all_inputs, reach_of
from teamtells.systems.programs import need_system
from teamtells.systems.runs import Run, are_inputs

MOST_WAY = 2000


def _moment_behind(system, inputs, way):
    """The moment behind a way: TooMany if too many moments are reached with the inputs."""
    run = Run(system, inputs)
    if not run.tried(way, False):
        raise InvalidOperation("not a tuple of threads whose steps can be done")
    reach_of(system, inputs, False)
    return run.moment


def _ahead(system, moment):
    """The decisions ahead at a moment, ascending."""
    decided = list(moment[2])
    met = {moment: True}
    waiting = [moment]
    # Moments behind few changes from thread to thread come first. Both decisions are often met behind these, so that
    # an open moment is told without a walk through all that is behind it, which has no limit for a judge.
    while waiting and len(decided) < 2:
        waiting = _one_change_further(system, waiting, met)
        for behind in waiting:
            decided.extend([decision for decision in behind[2] if decision not in decided])
    return tuple(sorted(decided))


def _one_change_further(system, moments, met):
    """The moments, not met before, to which one thread alone leads from any of these. They are met from now on."""
    steps = system.steps()
    fresh = []
    for moment in moments:
        for thread in range(len(system)):
            here = moment
            while steps.decision(here, thread) is None:
                here = steps.after(here, thread)
                if here in met:
                    break
                met[here] = True
                fresh.append(here)
    return fresh


def _behind_steps(system, moment):
    """For each active thread the moment behind its step."""
    steps = system.steps()
    active = [thread for thread in range(len(system)) if steps.decision(moment, thread) is None]
    return [steps.after(moment, thread) for thread in active]


def _is_open_at(system, moment):
    return len(_ahead(system, moment)) == 2


def _is_critical_at(system, moment):
    if not _is_open_at(system, moment):
        return False
    for behind in _behind_steps(system, moment):
        if _is_open_at(system, behind):
            return False
    return True


def decisions_ahead(system, inputs, way):
    """The decisions for which threads have decided or can still decide behind a way, ascending."""
    return _ahead(system, _moment_behind(system, inputs, way))


def is_open(system, inputs, way):
    """Whether both decisions are ahead behind a way."""
    return _is_open_at(system, _moment_behind(system, inputs, way))


def is_critical(system, inputs, way):
    """Whether it is open behind a way, but not behind any step more."""
    return _is_critical_at(system, _moment_behind(system, inputs, way))


def critical_way(system):
    """A pair (inputs, way) at which it is critical. No other way is shorter."""
    need_system(system)
    right = len(system) > 1
    found = []
    # All inputs are gone through, as any of them can reach too many moments.
    for inputs in all_inputs(system):
        reach = reach_of(system, inputs, False)
        right = right and reach.height() is not None
        way = reach.critical_way() if right else None
        if way is not None:
            found.append((inputs, way))
    if not right:
        raise InvalidOperation("one thread, or not right")
    return min(found, key=_length_of_way)


def _length_of_way(pair):
    return len(pair[1])


def is_critical_way(system, value):
    """Whether the value is a pair (inputs, way) at which it is critical."""
    need_system(system)
    if not isinstance(value, tuple) or len(value) != 2 or not are_inputs(system, value[0]):
        return False
    if not isinstance(value[1], tuple) or len(value[1]) > MOST_WAY:
        return False
    run = Run(system, value[0])
    return run.tried(value[1], False) and _is_critical_at(system, run.moment)


def plan_at(system, inputs, way):
    """The triple (object, plan, threads) that is read off behind a critical way."""
    moment = _moment_behind(system, inputs, way)
    if not _is_critical_at(system, moment):
        raise InvalidOperation("not critical")
    rows = [program.row(index) for program, index in zip(system.programs, moment[1])]
    place = rows[0][1]
    if not all([row[0] == "do" and row[1] == place for row in rows]):
        raise InvalidOperation("not all threads are at do rows of one object")
    # No thread has decided, so that each decision is ahead behind some step: both teams have threads.
    ahead = [_ahead(system, behind) for behind in _behind_steps(system, moment)]
    first = [thread for thread, decisions in enumerate(ahead) if 0 in decisions]
    second = [thread for thread, decisions in enumerate(ahead) if 0 not in decisions]
    teams = [tuple([rows[thread][2] for thread in team]) for team in (first, second)]
    return place, Plan(system.objects[place][0], moment[0][place], teams[0], teams[1]), (*first, *second)
