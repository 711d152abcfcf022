"""Faces: what a picture encloses, and how often a path goes round."""

from plotpens.checks import is_point
from plotpens.errors import InvalidFace, InvalidFaces, NotClosed, NotEven, TooLarge
from plotpens.odds import is_even
from plotpens.pictures import Picture, check_picture
from plotpens.programs import check_program
from plotpens.tallies import odd_ones
from plotpens.tracks import ORIGIN, track_of

MOST_FACES = 10000


def inside_of(picture):
    """The ascending list of the faces inside a picture."""
    if count_inside(picture) > MOST_FACES:
        raise TooLarge(MOST_FACES)
    return sorted([(x, y) for y, left, right in rows_inside(picture) for x in range(left, right)])


def count_inside(picture):
    """The number of the faces inside a picture."""
    check_picture(picture)
    check_even(picture)
    return sum([right - left for y, left, right in rows_inside(picture)])


def is_inside(picture, face):
    """Whether a face is inside a picture."""
    check_picture(picture)
    check_face(face)
    check_even(picture)
    rows = [(left, right) for y, left, right in rows_inside(picture) if y == face[1]]
    return any([left <= face[0] < right for left, right in rows])


def outline_of(faces):
    """The outline of a list of different faces, as a picture."""
    if not isinstance(faces, list) or not all([is_point(face) for face in faces]):
        raise InvalidFaces("not a list of faces")
    if len(set(faces)) < len(faces):
        raise InvalidFaces("a face stands twice in the list")
    return Picture(odd_ones([edge for face in faces for edge in _edges_around(face)]))


def winding(program, face):
    """How often the path of a program goes round a face to the left, minus how often to the right."""
    check_program(program)
    check_face(face)
    # Each time round to the left leads upwards once more on the right of the face than downwards.
    return sum([rise for x, y, rise in _climbs_of(program) if y == face[1] and x > face[0]])


def area_of(program):
    """The sum, over all faces, of how often the path of a program goes round them."""
    check_program(program)
    return sum([x * rise for x, y, rise in _climbs_of(program)])


def check_face(face):
    if not is_point(face):
        raise InvalidFace("not a tuple of two integers")


def check_even(picture):
    if not is_even(picture):
        raise NotEven("the picture has odd points")


def rows_inside(picture):
    """The list of the rows of faces inside an even picture: the y of the faces, the least x, and the x behind them."""
    walls = {}
    for x, y, side in picture.edges:
        if side == 1:
            walls.setdefault(y, []).append(x)
    # Edges are ascending, so each wall of a row leads in or out, in turns.
    return [(y, left, right) for y in walls for left, right in zip(walls[y][::2], walls[y][1::2])]


def _edges_around(face):
    x, y = face
    return [(x, y, 0), (x, y, 1), (x, y + 1, 0), (x + 1, y, 1)]


def _climbs_of(program):
    """The moves up and down along a path that is closed: the x, the lower y, and 1 for up or -1 for down."""
    moves = track_of(program, ORIGIN, True)
    if moves and moves[-1][1] != ORIGIN[:2]:
        raise NotClosed("the path does not end at its first point")
    return [(x, min(y, next_y), next_y - y) for (x, y), (next_x, next_y), stretch in moves if y != next_y]
