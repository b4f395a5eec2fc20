"""Systems that are changed, but stay right if they are [12.1]."""

from teamtells.base.kinds import is_map, need_kind
from teamtells.base.values import is_number_in, need_number
from teamtells.errors import InvalidOperation, TooMany
from teamtells.systems.checks import all_inputs, reach_of
from teamtells.systems.programs import MAX_ROWS, Program, System, need_system


def without_thread(system, thread):
    """The system without a thread."""
    need_system(system)
    need_number(thread, 0, len(system) - 1)
    if len(system) == 1:
        raise InvalidOperation("the only thread")
    programs = system.programs
    return System(system.objects, programs[:thread] + programs[thread + 1:])


def reordered(system, objects, threads):
    """The system with objects and threads in another order."""
    need_system(system)
    _need_order(objects, len(system.objects))
    _need_order(threads, len(system))
    numbers = {old: new for new, old in enumerate(objects)}
    programs = [_on_some(system.programs[thread], numbers) for thread in threads]
    return System(tuple([system.objects[old] for old in objects]), tuple(programs))


def _need_order(value, many):
    """Raise InvalidOperation if the value is no tuple of just all numbers below this one."""
    if not isinstance(value, tuple) or not all([is_number_in(number, 0, many - 1) for number in value]):
        raise InvalidOperation("not a tuple of old numbers")
    if sorted(value) != list(range(many)):
        raise InvalidOperation("not all old numbers, each once")


def _on_some(program, numbers):
    """The program with other indices for its objects, which are some of those with new numbers."""
    return program.on({old: numbers[old] for old in program.objects_used()})


def pulled_back(system, index, kind, state, value):
    """The system with an object of another kind, by a map to the old one."""
    need_system(system)
    need_number(index, 0, len(system.objects) - 1)
    need_kind(kind)
    need_number(state, 0, kind.size - 1)
    old, start = system.objects[index]
    if not is_map(kind, old, value) or value[state] != start:
        raise InvalidOperation("not a map to the old kind that takes the state to the old one")
    objects = (*system.objects[:index], (kind, state), *system.objects[index + 1:])
    return System(objects, tuple([_pulled_program(program, index, kind, value) for program in system.programs]))


def _pulled_program(program, index, kind, value):
    """The program for an object of a kind that is mapped to the old one."""
    rows = []
    for row in program.rows:
        if row[0] == "decide" or row[1] != index:
            rows.append(row)
        elif row[0] == "read":
            rows.append(("read", index, {state: row[2][value[state]] for state in range(kind.size)}))
        else:
            rows.append(("do", index, row[2], {answer: row[3][answer] for answer in kind.answers(row[2])}))
    return Program(tuple(rows), program.starts)


def shortened(system):
    """The system without the rows to which no run without restarts comes."""
    need_system(system)
    met = [{} for _ in system.programs]
    for inputs in all_inputs(system):
        for _, rows, _ in reach_of(system, inputs, False).moments():
            for thread, row in enumerate(rows):
                met[thread][row] = True
    programs = [_short_program(program, sorted(met[thread])) for thread, program in enumerate(system.programs)]
    return System(system.objects, tuple(programs))


def _short_program(program, kept):
    """The program with just these rows; moves to others lead to row 0."""
    numbers = {old: new for new, old in enumerate(kept)}
    rows = []
    for old in kept:
        row = program.row(old)
        rows.append(_with_moves(row, {key: numbers.get(behind, 0) for key, behind in _moves_of(row).items()}))
    return Program(tuple(rows), tuple([numbers[start] for start in program.starts]))


def _moves_of(row):
    """The moves of a row, none for a decision."""
    return {} if row[0] == "decide" else row[-1]


def _with_moves(row, moves):
    """The row with other moves, the same for a decision."""
    return row if row[0] == "decide" else (*row[:-1], moves)


def spread(system):
    """The system with all rows twice; moves lead from the first copies to the second ones, and back."""
    need_system(system)
    if max([len(program) for program in system.programs]) * 2 > MAX_ROWS:
        raise TooMany(MAX_ROWS)
    return System(system.objects, tuple([_spread_program(program) for program in system.programs]))


def _spread_program(program):
    """The program with its rows twice."""
    many = len(program)
    first = [_with_moves(row, {key: behind + many for key, behind in _moves_of(row).items()}) for row in program.rows]
    return Program((*first, *program.rows), program.starts)
