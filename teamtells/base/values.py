"""What all modules need to judge numbers that are passed."""

from teamtells.errors import InvalidNumber


def is_number_in(value, least, most):
    """Whether the value is an integer [0.1] from least to most."""
    # The limit of sixty digits needs no test of its own: every range that is asked for is far smaller.
    return isinstance(value, int) and not isinstance(value, bool) and least <= value <= most


def need_number(value, least, most):
    """Raise InvalidNumber with the value if it is no integer from least to most."""
    if not is_number_in(value, least, most):
        raise InvalidNumber(value)
