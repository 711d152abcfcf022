"""Intervals: how many integers they hold."""

from plotpens.checks import is_integer, is_point
from plotpens.errors import InvalidIntervals, InvalidPlace


def covered(intervals):
    """The number of integers that at least one interval holds."""
    check_intervals(intervals)
    return count_covered_in(intervals)


def odd_covered(intervals):
    """The number of integers that an odd number of intervals holds."""
    check_intervals(intervals)
    return count_odd_in(intervals)


def depth_at(intervals, place):
    """The number of intervals that hold an integer."""
    check_intervals(intervals)
    if not is_integer(place):
        raise InvalidPlace("not an integer")
    return count_around(intervals, place)


def count_covered_in(intervals):
    """What covered tells; here intervals may also be empty."""
    total = 0
    reach = None
    for start, end in sorted(intervals):
        first = start if reach is None else max(start, reach)
        if first < end:
            total = total + end - first
            reach = end
    return total


def count_odd_in(intervals):
    """What odd_covered tells; here intervals may also be empty."""
    return sum([end - start for start, end in odd_pieces(intervals)])


def count_around(intervals, place):
    """What depth_at tells; here intervals may also be empty."""
    return len([start for start, end in intervals if start <= place < end])


def odd_pieces(intervals):
    """The ascending list of intervals, empty ones among them, that together hold each integer once that an odd number
    of the given ones holds."""
    # Behind each start or end the number changes by one, so it is odd and even in turns.
    ends = sorted([end for interval in intervals for end in interval])
    return list(zip(ends[::2], ends[1::2]))


def check_intervals(intervals):
    if not isinstance(intervals, list) or not all([_is_interval(interval) for interval in intervals]):
        raise InvalidIntervals("not a list of tuples of two integers, the lesser one first")


def _is_interval(value):
    # A point is a tuple of two integers, too.
    return is_point(value) and value[0] < value[1]
