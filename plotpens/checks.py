"""What counts as an integer, a decimal number, a number of times, a point and a pose."""

from plotpens.errors import InvalidPoint, InvalidPose, InvalidTimes

MOST_TIMES = 10 ** 30
MOST_DIGITS = 31


def is_integer(value):
    """Whether any value is an integer; True and False are not."""
    return isinstance(value, int) and not isinstance(value, bool)


def is_integer_within(value, least, most):
    """Whether any value is an integer from least to most."""
    return is_integer(value) and least <= value <= most


def is_tuple_of(value, many):
    """Whether any value is a tuple of so many items."""
    return isinstance(value, tuple) and len(value) == many


def is_point(value):
    """Whether any value is a point."""
    return is_tuple_of(value, 2) and is_integer(value[0]) and is_integer(value[1])


def is_pose(value):
    """Whether any value is a pose."""
    return is_tuple_of(value, 3) and is_point(value[:2]) and is_integer_within(value[2], 0, 3)


def is_decimal(word):
    """Whether a string is a decimal number, without leading zeros, that is not too long."""
    # Python refuses to read a very long row of digits.
    if len(word) > MOST_DIGITS or not word.isascii() or not word.isdigit():
        return False
    return word == "0" or not word.startswith("0")


def check_times(times):
    if not is_integer_within(times, 0, MOST_TIMES):
        raise InvalidTimes("not an integer from 0 to 10 ** 30")


def check_point(point):
    if not is_point(point):
        raise InvalidPoint("not a tuple of two integers")


def check_pose(pose):
    if not is_pose(pose):
        raise InvalidPose("not a tuple of two integers and a heading")
