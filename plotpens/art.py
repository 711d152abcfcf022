"""Art: pictures as rows of signs."""

from plotpens.errors import InvalidArt, TooLarge
from plotpens.pictures import Picture, check_picture, ends_of_edge
from plotpens.tallies import tally

MOST_APART = 40


def show_art(picture):
    """The art of a picture: the list of its rows, from the top."""
    check_picture(picture)
    degrees = tally([point for edge in picture.edges for point in ends_of_edge(edge)])
    columns = _numbers_between([x for x, y in degrees])
    heights = _numbers_between([y for x, y in degrees])
    rows = []
    for y in reversed(heights):
        rows.append(_row_of_points(picture, degrees, columns, y))
        rows.append(_row_between(picture, columns, y - 1))
    # Nothing lies below the lowest points.
    return rows[:-1]


def read_art(rows):
    """The picture with an art, its least coordinates being 0."""
    if not _is_small(rows):
        raise InvalidArt("not a list of strings, or larger than any art")
    picture = Picture(_edges_in(rows))
    if show_art(picture) != rows:
        raise InvalidArt("not the art of any picture")
    return picture


def _numbers_between(coordinates):
    """The ascending list of all numbers from the least coordinate to the greatest one."""
    if not coordinates:
        return []
    least = min(coordinates)
    greatest = max(coordinates)
    if greatest - least > MOST_APART:
        raise TooLarge(MOST_APART)
    return list(range(least, greatest + 1))


def _row_of_points(picture, degrees, columns, y):
    signs = []
    for x in columns:
        signs.append(str(degrees.get((x, y), ".")))
        signs.append("-" if (x, y, 0) in picture else " ")
    # No edge leads on from the last point.
    return "".join(signs[:-1])


def _row_between(picture, columns, y):
    """The row between the points with a y and those above them."""
    return " ".join(["|" if (x, y, 1) in picture else " " for x in columns])


def _is_small(value):
    """Whether any value is a list of strings, not more and not longer ones than there can be in an art."""
    most = 2 * MOST_APART + 1
    if not isinstance(value, list) or len(value) > most:
        return False
    return all([isinstance(row, str) and len(row) <= most for row in value])


def _edges_in(rows):
    """The list of the edges for which there are signs at their places."""
    height = len(rows) // 2
    edges = []
    for down, row in enumerate(rows):
        for along, sign in enumerate(row):
            if sign == "-" and down % 2 == 0 and along % 2 == 1:
                edges.append((along // 2, height - down // 2, 0))
            if sign == "|" and down % 2 == 1 and along % 2 == 0:
                edges.append((along // 2, height - down // 2 - 1, 1))
    return edges
