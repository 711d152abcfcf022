"""Rounds: by how much they drift, and what each of them passes."""

from plotpens.motions import motion_of
from plotpens.pictures import edges_passed
from plotpens.tracks import ORIGIN


def drift_of(program):
    """By how much the rounds of a program drift; None if they close."""
    motion = motion_of(program)
    return motion.shift if motion.order() is None else None


def first_round(program):
    """The edges that the first round passes, one for each pass."""
    return edges_passed(program, ORIGIN, True)


def closed_rounds(program):
    """For each of the rounds that close, until they begin again, the edges that it passes, one for each pass."""
    motion = motion_of(program)
    found = []
    for number in range(motion.order()):
        ahead = motion * number
        found.append(edges_passed(program, ahead(ORIGIN), True))
    return found


def count_alike(number, order, times):
    """How many of so many rounds are the one with a number, which is less than the order, or the same again."""
    return (times + order - 1 - number) // order
