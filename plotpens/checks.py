"""What counts as an integer and as a number of times."""

from plotpens.errors import InvalidTimes

MOST_TIMES = 10 ** 30


def is_integer_within(value, least, most):
    """Whether any value is an integer from least to most; True and False are not."""
    return isinstance(value, int) and not isinstance(value, bool) and least <= value <= most


def check_times(times):
    if not is_integer_within(times, 0, MOST_TIMES):
        raise InvalidTimes("not an integer from 0 to 10 ** 30")
