"""Many rounds: what is drawn and passed in them, exactly, however many they are."""

from plotpens.checks import check_times
from plotpens.classes import classes_of, count_left, intervals_of, place_of
from plotpens.errors import NotDrifting, TooLarge
from plotpens.faces import check_even, count_inside, rows_inside
from plotpens.odds import odd_points
from plotpens.pictures import check_edge, drawn, ends_of_edge
from plotpens.programs import MOST_STEPS, check_length, check_program
from plotpens.rounds import closed_rounds, count_alike, drift_of, first_round
from plotpens.rows import count_in_rows, picture_of_rows, rows_after
from plotpens.spans import count_around, count_covered_in
from plotpens.tallies import odd_ones

MOST_EDGES = 4000


def count_edges(program, times):
    """The number of the edges of the picture after so many rounds."""
    _check_rounds(program, times)
    return count_in_rows(rows_after(program, times))


def count_passed(program, times):
    """The number of the edges that are passed at least once in so many rounds."""
    _check_rounds(program, times)
    drift = drift_of(program)
    if drift is None:
        return len({edge for edges in closed_rounds(program)[:times] for edge in edges})
    classes = classes_of(first_round(program), drift)
    return sum([count_covered_in(intervals_of(places, times)) for places in classes.values()])


def count_odd(program, times):
    """The number of the odd points of the picture after so many rounds."""
    _check_rounds(program, times)
    drift = drift_of(program)
    if drift is None:
        return len(odd_points(_picture_after(program, times)))
    ends = [point for edge in first_round(program) for point in ends_of_edge(edge)]
    return count_left(classes_of(odd_ones(ends), drift), times)


def strokes_after(program, times):
    """The least number of toggled strokes of the picture after so many rounds."""
    if count_edges(program, times) == 0:
        return 0
    return max(1, count_odd(program, times) // 2)


def faces_after(program, times):
    """The number of the faces inside the picture after so many rounds."""
    _check_rounds(program, times)
    drift = drift_of(program)
    if drift is None or times == 0:
        return count_inside(_picture_after(program, times))
    picture = drawn(program)
    check_even(picture)
    faces = [(x, y) for y, left, right in rows_inside(picture) for x in range(left, right)]
    return count_left(classes_of(faces, drift), times)


def has_edge(program, edge, times):
    """Whether the picture after so many rounds has an edge."""
    return passes_at(program, edge, times) % 2 == 1


def passes_at(program, edge, times):
    """How often an edge is passed in so many rounds."""
    check_program(program)
    check_edge(edge)
    _check_rounds(program, times)
    drift = drift_of(program)
    if drift is None:
        rounds = closed_rounds(program)
        return sum([edges.count(edge) * count_alike(number, len(rounds), times) for number, edges in enumerate(rounds)])
    places, place = _places_beside(program, edge, drift)
    return count_around(intervals_of(places, times), place)


def picture_after(program, times):
    """The picture after so many rounds."""
    _check_rounds(program, times)
    rows = rows_after(program, times)
    if count_in_rows(rows) > MOST_EDGES:
        raise TooLarge(MOST_EDGES)
    return picture_of_rows(program, rows)


def rounds_passing(program, edge):
    """The ascending list of the numbers of the rounds in which an edge is passed."""
    check_program(program)
    check_edge(edge)
    check_length(program, MOST_STEPS)
    drift = drift_of(program)
    if drift is None:
        raise NotDrifting("the rounds close")
    places, place = _places_beside(program, edge, drift)
    return sorted({place - other for other in places if other <= place})


def _check_rounds(program, times):
    check_program(program)
    check_times(times)
    check_length(program, MOST_STEPS)


def _picture_after(program, times):
    """The picture after so many rounds, if it is surely not too large."""
    return picture_of_rows(program, rows_after(program, times))


def _places_beside(program, edge, drift):
    """The places in the class of an edge at which the first round passes edges, one for each pass; its own place."""
    first, place = place_of(edge, drift)
    classes = classes_of(first_round(program), drift)
    return classes.get(first, []), place
