"""Classes: edges, points or faces that become one another by drifting, and what many rounds leave of them."""

from plotpens.spans import count_odd_in


def place_of(value, drift):
    """The first value of the class of an edge, a point or a face, and how many times it drifts to become this one."""
    dx, dy = drift
    times = value[0] // dx if dx != 0 else value[1] // dy
    return drifted(value, drift, -times), times


def drifted(value, drift, times):
    """An edge, a point or a face, moved so many times."""
    return (value[0] + times * drift[0], value[1] + times * drift[1]) + value[2:]


def classes_of(values, drift):
    """The first values of the classes of the values of one round, each with the list of their places in it."""
    found = {}
    for value in values:
        first, place = place_of(value, drift)
        found.setdefault(first, []).append(place)
    return found


def intervals_of(places, times):
    """The intervals that the places of a class become in so many rounds."""
    return [(place, place + times) for place in places]


def count_left(classes, times):
    """How many values come an odd number of times in so many rounds."""
    return sum([count_odd_in(intervals_of(places, times)) for places in classes.values()])
