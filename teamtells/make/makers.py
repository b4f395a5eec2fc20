"""Right systems that are made from plans that tell [11.1], and from plans that record [11.2].

A *stage* is a pair (plan, threads) of a plan and the numbers of the threads of the system that do its operations, in
the order of the plan. It has three objects: that of the plan, and a cell for each team.
"""

from teamtells.base.kinds import Kind, need_kind
from teamtells.base.made import cell_kind
from teamtells.base.values import need_number
from teamtells.errors import InvalidOperation, TooMany
from teamtells.plans.plans import need_plan
from teamtells.plans.telling import records, seen_by, states_behind, tells
from teamtells.search.found import first_plan
from teamtells.systems.programs import MAX_RUNNERS, Program, System, need_system

STAGE_OBJECTS = 3
DECISIONS = (("decide", 0), ("decide", 1))
MOST_VALUES = 6


def _need_plan_for_system(plan):
    """Raise InvalidPlan if this is no plan, TooMany if it has more threads than a system."""
    need_plan(plan)
    if len(plan) > MAX_RUNNERS:
        raise TooMany(MAX_RUNNERS)


def made_system(plan):
    """A right system with a thread for each thread of a plan that tells."""
    _need_plan_for_system(plan)
    if not tells(plan):
        raise InvalidOperation("the plan does not tell")
    return _system_of(plan, _telling_rows)


def lasting_system(plan):
    """A system that is right with restarts, with a thread for each thread of a plan that records."""
    _need_plan_for_system(plan)
    if not records(plan):
        raise InvalidOperation("the plan does not record")
    return _system_of(plan, _recording_rows)


def _system_of(plan, rows_of):
    """The system in which threads go through stages, whose rows are made by the function."""
    stages = _stages(plan, tuple(range(len(plan))))
    objects = []
    for part, _ in stages:
        objects.extend([(part.kind, part.start), (cell_kind(2), 0), (cell_kind(2), 0)])
    return System(tuple(objects), tuple([_program(stages, thread, rows_of) for thread in range(len(plan))]))


def _stages(plan, threads):
    """The stages by which threads agree: those of teams of several threads, and behind them that of all."""
    many = len(plan.teams[0])
    stages = []
    for team in (threads[:many], threads[many:]):
        if len(team) > 1:
            stages.extend(_stages(_part(plan, len(team)), team))
    return [*stages, (plan, threads)]


def _part(plan, many):
    """The plan with so many of its threads, at least two, of both teams."""
    while len(plan) > many:
        plan = plan.fewer(len(plan) - 1 if len(plan.teams[1]) > 1 else 0)
    return plan


def _program(stages, thread, rows_of):
    """The program of a thread: the rows of its stages one behind the other, and its decisions."""
    rows = []
    for number, (plan, threads) in enumerate(stages):
        if thread in threads:
            rows.extend(rows_of(plan, threads.index(thread), STAGE_OBJECTS * number, len(rows)))
    return Program((*rows, *DECISIONS), (0, 1))


def _telling_rows(plan, thread, place, at):
    """The rows of a stage with the objects from `place` on, which stand in a program from the row `at` on.

    The thread comes to the first row with 0 and to the second one with 1, and goes to the rows behind likewise.
    """
    name = plan.threads[thread]
    answers = plan.kind.answers(name)
    reads = at + 3
    cells = reads + len(answers)
    second = seen_by(plan, thread, 1)
    rows = _put_rows(plan, thread, place, at)
    rows.append(("do", place, name, {answer: reads + index for index, answer in enumerate(answers)}))
    for answer in answers:
        states = [state for told, state in second if told == answer]
        rows.append(("read", place, _moves_to_cells(cells, states, plan.kind.size)))
    return rows + _cell_rows(place, cells)


def _recording_rows(plan, thread, place, at):
    """The same for a plan that records, by whose states alone it is known which team went first."""
    name = plan.threads[thread]
    cells = at + 5
    known = _moves_to_cells(cells, states_behind(plan, 1), plan.kind.size)
    rows = _put_rows(plan, thread, place, at)
    rows.append(("read", place, {**known, plan.start: at + 3}))
    rows.append(("do", place, name, {answer: at + 4 for answer in plan.kind.answers(name)}))
    rows.append(("read", place, known))
    return rows + _cell_rows(place, cells)


def _put_rows(plan, thread, place, at):
    """The rows that put 0 and 1 into the cell of the team of the thread."""
    cell = place + 1 + plan.team_of(thread)
    return [("do", cell, "puta", {0: at + 2}), ("do", cell, "putb", {0: at + 2})]


def _moves_to_cells(cells, second, size):
    """Moves to the row that reads the cell of the second team in these states, to that of the first one in others."""
    return {state: cells + 1 if state in second else cells for state in range(size)}


def _cell_rows(place, cells):
    """The rows that read the cell of each team, and lead to the rows behind."""
    return [("read", place + 1 + team, {0: cells + 2, 1: cells + 3}) for team in (0, 1)]


def agreeing_system(kind, threads):
    """A right system for so many threads by objects of the kind and cells."""
    need_kind(kind)
    need_number(threads, 1, MAX_RUNNERS)
    if threads == 1:
        return System((), (Program(DECISIONS, (0, 1)),))
    plan = first_plan(kind, threads)
    if plan is None:
        raise InvalidOperation("the kind has no plan that tells for so many threads")
    return made_system(plan)


def is_made_of(system, value):
    """Whether the value is a tuple of kinds, and each object is of one of them or of a cell kind."""
    need_system(system)
    if not isinstance(value, tuple) or not all([isinstance(kind, Kind) for kind in value]):
        return False
    cells = [cell_kind(many) for many in range(1, MOST_VALUES + 1)]
    return all([kind in value or kind in cells for kind, _ in system.objects])
