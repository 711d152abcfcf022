"""Odd points: where an odd number of edges ends, and which edges hang together."""

from plotpens.checks import check_point, check_pose
from plotpens.paths import stretches_of
from plotpens.pictures import Picture, check_picture, ends_of_edge
from plotpens.programs import check_program
from plotpens.tallies import odd_ones


def degree_at(picture, point):
    """The number of edges of a picture that end at a point."""
    check_picture(picture)
    check_point(point)
    x, y = point
    near = [(x, y, 0), (x, y, 1), (x - 1, y, 0), (x, y - 1, 1)]
    return len([edge for edge in near if edge in picture])


def odd_points(picture):
    """The ascending list of the odd points of a picture."""
    check_picture(picture)
    return odd_ones([point for edge in picture.edges for point in ends_of_edge(edge)])


def is_even(picture):
    """Whether a picture has no odd points."""
    return not odd_points(picture)


def parts_of(picture):
    """The list of the parts as pictures, ordered by their least edges."""
    check_picture(picture)
    ending = _edges_by_points(picture.edges)
    seen = {}
    found = []
    for edge in picture.edges:
        if edge not in seen:
            found.append(Picture(_connected(edge, ending, seen)))
    return found


def ends_of(program, *, start=(0, 0, 0), pen=True):
    """The ascending list of the points at which an odd number of ends of stretches lie."""
    check_program(program)
    check_pose(start)
    stretches = stretches_of(program, start=start, pen=pen)
    return odd_ones([stretch[0] for stretch in stretches] + [stretch[-1] for stretch in stretches])


def _edges_by_points(edges):
    """The points at which edges end, each with the list of these edges."""
    ending = {}
    for edge in edges:
        for point in ends_of_edge(edge):
            ending.setdefault(point, []).append(edge)
    return ending


def _connected(edge, ending, seen):
    """The list of an edge that is not seen yet and all that are connected with it; they are seen then."""
    seen[edge] = True
    found = [edge]
    at = 0
    while at < len(found):
        near = [other for point in ends_of_edge(found[at]) for other in ending[point]]
        for other in near:
            if other not in seen:
                seen[other] = True
                found.append(other)
        at = at + 1
    return found
