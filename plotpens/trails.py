"""Trails: as few strokes as possible that pass each edge of a picture once."""

from plotpens.odds import odd_points, parts_of
from plotpens.pictures import ends_of_edge


def trails_of(picture):
    """A list of as few plain strokes of a picture as possible. Those of parts without odd points are closed, and no
    others are."""
    found = []
    for part in parts_of(picture):
        found.extend(_trails_of_part(part))
    return found


def _trails_of_part(part):
    odd = odd_points(part)
    ways = [ends_of_edge(edge) for edge in part.edges]
    # With a jump from each second odd point to the next one no point is odd, so that one circuit passes everything.
    jumps = list(zip(odd[::2], odd[1::2]))
    circuit = _circuit_of(ways + jumps)
    if not odd:
        points = [point for point, number in circuit]
        return [tuple(points + points[:1])]
    return _cut(circuit, len(ways))


def _circuit_of(ways):
    """The points of a circuit that takes each way once, each with the number of the way that leads on from it."""
    leaving = _ways_by_points(ways)
    taken = [False] * len(ways)
    waiting = [(ways[0][0], None)]
    circuit = []
    while waiting:
        point = waiting[-1][0]
        number, other = _next_way(leaving[point], taken)
        if number is None:
            # All ways from here are taken, so what waits leads back from here to the point that is left.
            circuit.append(waiting.pop())
        else:
            taken[number] = True
            waiting.append((other, number))
    return circuit[:-1]


def _ways_by_points(ways):
    """The points, each with the list of the numbers of the ways that end there, and where they lead."""
    leaving = {}
    for number, (one, other) in enumerate(ways):
        leaving.setdefault(one, []).append((number, other))
        leaving.setdefault(other, []).append((number, one))
    return leaving


def _next_way(leaving, taken):
    """The number of a way that is not taken yet, and where it leads; it is removed with those behind it."""
    while leaving:
        number, other = leaving.pop()
        if not taken[number]:
            return number, other
    return None, None


def _cut(circuit, many):
    """The strokes that are left of a circuit without its ways from the number on: no two of these meet in a point."""
    at = 0
    while circuit[at][1] < many:
        at = at + 1
    found = []
    points = []
    for point, number in circuit[at + 1:] + circuit[:at + 1]:
        points.append(point)
        if number >= many:
            found.append(tuple(points))
            points = []
    return found
