"""Grades of kinds, and pins about grades [14.1]. Grades and kinds are in dicts from names."""

from teamtells.base.values import is_number_in
from teamtells.search.levels import level_of

ENDLESS = "endless"
# Greater levels have this grade, too.
TOP_GRADE = 4


def grade_of(kind):
    """The grade of a kind."""
    level = level_of(kind, most=TOP_GRADE)
    return ENDLESS if level is None else level


def is_pin(value, kinds):
    """Whether the value is a pin about names of these kinds."""
    if not isinstance(value, tuple) or len(value) != 3:
        return False
    if value[0] == "equal":
        return value[1] != value[2] and all([_is_key(name, kinds) for name in value[1:]])
    return value[0] in ("least", "most") and _is_key(value[1], kinds) and is_number_in(value[2], 1, TOP_GRADE)


def _is_key(value, kinds):
    # What is no string may be no key at all, such as a list.
    return isinstance(value, str) and value in kinds


def holds(pin, grades):
    """Whether a pin about these grades holds."""
    if pin[0] == "equal":
        return grades[pin[1]] == grades[pin[2]]
    number = _number_of(grades[pin[1]])
    return number >= pin[2] if pin[0] == "least" else number <= pin[2]


def _number_of(grade):
    """The grade as a number, for endless one more than the top."""
    return TOP_GRADE + 1 if grade == ENDLESS else grade


def news_between(before, after):
    """The tuples (name, old, new) for all names whose grade has become another one, ascending."""
    news = []
    for name in sorted({**before, **after}):
        change = (name, before.get(name, 0), after.get(name, 0))
        if change[1] != change[2]:
            news.append(change)
    return tuple(news)
