"""Growth: how the number of edges goes on, round after round, and after how many rounds something is so."""

from plotpens.checks import is_integer
from plotpens.classes import classes_of, count_left
from plotpens.errors import InvalidCount, NotDrifting
from plotpens.motions import motion_of
from plotpens.pictures import check_picture
from plotpens.programs import check_length, check_program
from plotpens.rounds import drift_of, first_round
from plotpens.rows import count_in_rows, picture_of_rows, rows_after
from plotpens.tallies import odd_ones

MOST_GROWING = 200


def growth_of(program):
    """The tuple (each, extra, least): each * N + extra edges after N rounds, for all N from least on."""
    check_program(program)
    return _growth_in(_odd_classes(program))


def times_with(program, count):
    """The list of the numbers of rounds with so many edges, and the number from which on all have so many, or None."""
    check_program(program)
    _check_count(count)
    classes = _odd_classes(program)
    each, extra, least = _growth_in(classes)
    numbers = [number for number in range(1, least) if count_left(classes, number) == count]
    if each == 0:
        return (numbers, least if count == extra else None)
    times, rest = divmod(count - extra, each)
    if rest == 0 and times >= least:
        numbers.append(times)
    return (numbers, None)


def times_for(program, picture):
    """The least number of rounds after which the picture is this one; None if it never is."""
    check_program(program)
    check_picture(picture)
    check_length(program, MOST_GROWING)
    for times in _times_to_try(program, picture):
        rows = rows_after(program, times)
        # Counted first, for there may be more edges than can be listed.
        if count_in_rows(rows) == len(picture) and picture_of_rows(program, rows) == picture:
            return times
    return None


def _check_count(count):
    if not is_integer(count) or count < 0:
        raise InvalidCount("not an integer from 0 on")


def _odd_classes(program):
    """The classes of the edges that one round draws, each with the list of their places in it."""
    check_length(program, MOST_GROWING)
    drift = drift_of(program)
    if drift is None:
        raise NotDrifting("the rounds close")
    return classes_of(odd_ones(first_round(program)), drift)


def _growth_in(classes):
    """What growth_of tells."""
    each = len([places for places in classes.values() if len(places) % 2 == 1])
    # Once there are as many rounds as the places of a class lie apart, each further one only moves its last ends on.
    apart = max([max(places) - min(places) for places in classes.values()], default=0)
    least = max(1, apart)
    extra = count_left(classes, least) - each * least
    while least > 1 and count_left(classes, least - 1) == each * (least - 1) + extra:
        least = least - 1
    return (each, extra, least)


def _times_to_try(program, picture):
    """The ascending list of the only numbers of rounds after which the picture can be this one."""
    drift = drift_of(program)
    if drift is None:
        motion = motion_of(program)
        # Twice as many rounds as it takes to come back pass each edge an even number of times.
        return list(range(2 * motion.order()))
    if not picture.edges:
        return [0]
    drawn_places = classes_of(odd_ones(first_round(program)), drift)
    given_places = classes_of(picture.edges, drift)
    for first in drawn_places:
        if first in given_places:
            # The edge that has drifted most is always that of the last round, for no other round passes it, too.
            times = max(given_places[first]) - max(drawn_places[first]) + 1
            return [times] if times > 0 else []
    return []
