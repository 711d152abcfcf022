"""Strokes: with how few of them a picture can be drawn again, edge by edge or with toggling."""

from plotpens.checks import is_point
from plotpens.errors import TooLarge
from plotpens.odds import odd_points, parts_of
from plotpens.pictures import check_picture, edge_between, ends_of_edge
from plotpens.routes import routes_of
from plotpens.tallies import odd_ones
from plotpens.trails import trails_of

MOST_APART = 1000


def fewest_plain(picture):
    """The least number of plain strokes of a picture."""
    return sum([_fewest(part) for part in parts_of(picture)])


def plain_strokes(picture):
    """A list of as few plain strokes of a picture as possible."""
    check_picture(picture)
    return trails_of(picture)


def is_plain(picture, value):
    """Whether any value is a list of plain strokes of a picture."""
    check_picture(picture)
    passed = _passed_by(value)
    return passed is not None and sorted(passed) == list(picture.edges)


def fewest_toggled(picture):
    """The least number of toggled strokes of a picture."""
    check_picture(picture)
    return _fewest(picture)


def toggled_strokes(picture):
    """A list of as few toggled strokes of a picture as possible."""
    check_picture(picture)
    points = [point for edge in picture.edges for point in ends_of_edge(edge)]
    if _reach([x for x, y in points]) > MOST_APART or _reach([y for x, y in points]) > MOST_APART:
        raise TooLarge(MOST_APART)
    return [_stroke_of(route) for route in routes_of(picture)]


def is_toggled(picture, value):
    """Whether any value is a list of toggled strokes of a picture."""
    check_picture(picture)
    passed = _passed_by(value)
    return passed is not None and odd_ones(passed) == list(picture.edges)


def _fewest(picture):
    """Half as many as there are odd points, but at least 1 if there is anything to draw."""
    if not picture.edges:
        return 0
    return max(1, len(odd_points(picture)) // 2)


def _reach(numbers):
    """How far the greatest number is from the least one."""
    return max(numbers, default=0) - min(numbers, default=0)


def _stroke_of(route):
    """The stroke along a route: all points on the way."""
    points = [route[0]]
    for goal in route[1:]:
        while points[-1] != goal:
            points.append(_nearer(points[-1], goal))
    return tuple(points)


def _nearer(point, goal):
    """The neighbour of a point on the straight way to another one."""
    x, y = point
    if x != goal[0]:
        return (x + 1 if x < goal[0] else x - 1, y)
    return (x, y + 1 if y < goal[1] else y - 1)


def _passed_by(value):
    """The edges that strokes pass, one for each pass; None if the value is not a list of strokes."""
    if not isinstance(value, list) or not all([_is_row_of_points(stroke) for stroke in value]):
        return None
    passed = [edge_between(one, other) for stroke in value for one, other in zip(stroke, stroke[1:])]
    if None in passed:
        return None
    return passed


def _is_row_of_points(value):
    return isinstance(value, tuple) and len(value) > 1 and all([is_point(point) for point in value])
