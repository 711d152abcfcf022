"""Rows: the edges that many rounds leave, few rows of them where they cannot be listed one by one."""

from plotpens.classes import classes_of, drifted, intervals_of
from plotpens.motions import motion_of
from plotpens.pictures import Picture
from plotpens.rounds import closed_rounds, count_alike, drift_of, first_round
from plotpens.spans import odd_pieces
from plotpens.tallies import odd_ones


def rows_after(program, times):
    """The edges of the picture after so many rounds, in rows: an edge, and the interval of the numbers of times that it
    is moved by the shift of the program to become those of the row."""
    drift = drift_of(program)
    if drift is None:
        return [(edge, 0, 1) for edge in _closed_edges(program, times)]
    found = []
    for first, places in classes_of(first_round(program), drift).items():
        for start, end in odd_pieces(intervals_of(places, times)):
            found.append((first, start, end))
    return found


def count_in_rows(rows):
    """The number of the edges in rows."""
    return sum([end - start for edge, start, end in rows])


def picture_of_rows(program, rows):
    """The picture of the edges in rows."""
    shift = motion_of(program).shift
    return Picture([drifted(edge, shift, place) for edge, start, end in rows for place in range(start, end)])


def _closed_edges(program, times):
    """The ascending list of the edges of the picture after so many rounds that close."""
    rounds = closed_rounds(program)
    passed = []
    for number, edges in enumerate(rounds):
        if count_alike(number, len(rounds), times) % 2 == 1:
            passed.extend(edges)
    return odd_ones(passed)
