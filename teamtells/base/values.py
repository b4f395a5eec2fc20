"""What all modules need to judge numbers that are passed."""

from teamtells.errors import InvalidNumber


def is_number_in(value, least, most):
    """Whether the value is an integer [0.1] from least to most."""
    # No range that is asked for goes beyond sixty digits, so these need no test of their own.
    return isinstance(value, int) and not isinstance(value, bool) and least <= value <= most


def need_number(value, least, most):
    """Raise InvalidNumber with the value if it is no integer from least to most."""
    if not is_number_in(value, least, most):
        raise InvalidNumber(value)


def need_count(value):
    """Raise InvalidNumber with the value if it is no integer [0.1] of at least 0."""
    if not is_count(value):
        raise InvalidNumber(value)


def is_count(value):
    """Whether the value is an integer [0.1] of at least 0: one of at most sixty digits."""
    return is_number_in(value, 0, 10 ** 60 - 1)
