"""Rounds: what each of them passes, and the edges that many of them leave."""

from plotpens.classes import classes_of, count_left, drifted, intervals_of
from plotpens.motions import motion_of
from plotpens.pictures import edges_passed
from plotpens.spans import odd_pieces
from plotpens.tallies import odd_ones
from plotpens.tracks import ORIGIN


def drift_of(program):
    """By how much the rounds of a program drift; None if they close."""
    motion = motion_of(program)
    return motion.shift if motion.order() is None else None


def first_round(program):
    """The edges that the first round passes, one for each pass."""
    return edges_passed(program, ORIGIN, True)


def closed_rounds(program):
    """For each of the rounds that close, until they begin again, the edges that it passes, one for each pass."""
    motion = motion_of(program)
    found = []
    for number in range(motion.order()):
        ahead = motion * number
        found.append(edges_passed(program, ahead(ORIGIN), True))
    return found


def count_alike(number, order, times):
    """How many of so many rounds are the one with a number, which is less than the order, or the same again."""
    return (times + order - 1 - number) // order


def edges_after(program, times):
    """The list of the edges of the picture after so many rounds."""
    drift = drift_of(program)
    if drift is None:
        return _closed_edges(program, times)
    found = []
    for first, places in classes_of(first_round(program), drift).items():
        for start, end in odd_pieces(intervals_of(places, times)):
            found.extend([drifted(first, drift, place) for place in range(start, end)])
    return found


def count_after(program, times):
    """The number of the edges of the picture after so many rounds."""
    drift = drift_of(program)
    if drift is None:
        return len(_closed_edges(program, times))
    return count_left(classes_of(first_round(program), drift), times)


def _closed_edges(program, times):
    """What edges_after tells, for rounds that close."""
    rounds = closed_rounds(program)
    passed = []
    for number, edges in enumerate(rounds):
        if count_alike(number, len(rounds), times) % 2 == 1:
            passed.extend(edges)
    return odd_ones(passed)
