"""The texts of kinds, plans and programs [14.2]."""

from teamtells.base.kinds import Kind, need_kind
from teamtells.errors import InvalidKind, InvalidPlan, InvalidProgram, ParseError
from teamtells.plans.plans import Plan, need_plan
from teamtells.systems.programs import Program
from teamtells.text.pieces import are_numbers, is_number, is_word, number_of


def write_kind(kind):
    """The text of a kind."""
    need_kind(kind)
    return "; ".join([_operation_text(name, row) for name, row in kind.operations.items()])


def _operation_text(name, row):
    pairs = " ".join([f"{state}/{answer}" for state, answer in row])
    return f"{name} {pairs}"


def write_plan(plan):
    """The text of a plan."""
    need_plan(plan)
    first, second = [", ".join(team) for team in plan.teams]
    return f"{plan.start}: {first} | {second}"


def write_program(program):
    """The text of a program."""
    if not isinstance(program, Program):
        raise InvalidProgram("not a program")
    pieces = [f"{program.starts[0]} {program.starts[1]}"]
    pieces.extend([_row_text(row) for row in program.rows])
    return "; ".join(pieces)


def _row_text(row):
    if row[0] == "decide":
        return f"decide {row[1]}"
    words = [str(word) for word in row[:-1]]
    words.extend([f"{key}:{behind}" for key, behind in row[-1].items()])
    return " ".join(words)


def _pieces(text):
    """The pieces of a text."""
    if not isinstance(text, str):
        raise ParseError(None)
    return text.split("; ")


def _need_same(text, written):
    """Raise ParseError if what was read has another text, as it does if there is nothing with this one."""
    if text != written:
        raise ParseError(None)


def read_kind(text):
    """The kind with this text."""
    pieces = _pieces(text)
    for at, piece in enumerate(pieces):
        if not _is_operation(piece):
            raise ParseError(at)
    try:
        kind = Kind({piece.split(" ")[0]: _row_of(piece) for piece in pieces})
    except InvalidKind:
        raise ParseError(None) from None
    _need_same(text, write_kind(kind))
    return kind


def _is_operation(piece):
    """Whether the piece is like that of an operation."""
    name, *pairs = piece.split(" ")
    return is_word(name) and len(pairs) > 0 and all([are_numbers(pair.split("/"), 2) for pair in pairs])


def _row_of(piece):
    """The row of an operation."""
    return tuple([_pair_of(pair, "/") for pair in piece.split(" ")[1:]])


def _pair_of(text, mark):
    """The pair of numbers with a mark between them."""
    one, other = text.split(mark)
    return number_of(one), number_of(other)


def read_plan(kind, text):
    """The plan of the kind with this text."""
    need_kind(kind)
    if not isinstance(text, str):
        raise ParseError(None)
    start, _, rest = text.partition(": ")
    teams = [tuple(team.split(", ")) for team in rest.split(" | ")]
    if not is_number(start) or len(teams) != 2 or not all([is_word(name) for team in teams for name in team]):
        raise ParseError(0)
    try:
        return Plan(kind, number_of(start), teams[0], teams[1])
    except InvalidPlan:
        raise ParseError(None) from None


def read_program(text):
    """The program with this text."""
    pieces = _pieces(text)
    if not are_numbers(pieces[0].split(" "), 2):
        raise ParseError(0)
    for at, piece in enumerate(pieces):
        if at > 0 and not _is_row(piece):
            raise ParseError(at)
    rows = tuple([_program_row(piece) for piece in pieces[1:]])
    try:
        program = Program(rows, _pair_of(pieces[0], " "))
    except InvalidProgram:
        raise ParseError(None) from None
    _need_same(text, write_program(program))
    return program


def _is_row(piece):
    """Whether the piece is like that of a row."""
    word, *rest = piece.split(" ")
    if word == "decide":
        return are_numbers(rest, 1)
    if word == "read":
        return are_numbers(rest[:1], 1) and _are_moves(rest[1:])
    return word == "do" and are_numbers(rest[:1], 1) and _are_words(rest[1:2]) and _are_moves(rest[2:])


def _are_words(texts):
    """Whether this is just one word."""
    return len(texts) == 1 and is_word(texts[0])


def _are_moves(texts):
    """Whether these are one or more moves."""
    return len(texts) > 0 and all([are_numbers(text.split(":"), 2) for text in texts])


def _program_row(piece):
    """The row of a program with the text of one."""
    words = piece.split(" ")
    number = number_of(words[1])
    if words[0] == "decide":
        return "decide", number
    if words[0] == "read":
        return "read", number, _moves_of(words[2:])
    return "do", number, words[2], _moves_of(words[3:])


def _moves_of(texts):
    """The dict of moves with these texts."""
    moves = {}
    for text in texts:
        key, behind = _pair_of(text, ":")
        moves[key] = behind
    return moves
