"""Pictures, and what programs draw."""

from plotpens.checks import check_point, check_pose, is_integer_within, is_point, is_tuple_of
from plotpens.errors import InvalidEdge, InvalidPicture, InvalidTurn
from plotpens.programs import check_program
from plotpens.tallies import odd_ones, tally
from plotpens.tracks import track_of


class Picture:
    """A finite set of edges."""

    def __init__(self, edges):
        check_edges(edges)
        self._edges = tuple(sorted(edges))
        self._has = {edge: True for edge in edges}

    @property
    def edges(self):
        return self._edges

    def __len__(self):
        return len(self._edges)

    def __eq__(self, other):
        return isinstance(other, Picture) and self._edges == other._edges

    def __contains__(self, x):
        return is_edge(x) and x in self._has

    def __xor__(self, other):
        check_picture(other)
        mine = [edge for edge in self._edges if edge not in other._has]
        others = [edge for edge in other._edges if edge not in self._has]
        return Picture(mine + others)

    def moved(self, dx, dy):
        """The picture moved."""
        check_point((dx, dy))
        return Picture([(x + dx, y + dy, side) for x, y, side in self._edges])

    def turned(self, quarters):
        """The picture turned about the point (0, 0) by so many quarters."""
        if not is_integer_within(quarters, 0, 3):
            raise InvalidTurn("not an integer from 0 to 3")
        edges = list(self._edges)
        for _ in range(quarters):
            edges = [_turned_edge(edge) for edge in edges]
        return Picture(edges)


def is_edge(value):
    """Whether any value is an edge."""
    return is_tuple_of(value, 3) and is_point(value[:2]) and is_integer_within(value[2], 0, 1)


def edge_between(point, other_point):
    """The edge between two points, None if they are not neighbours."""
    check_point(point)
    check_point(other_point)
    return _edge_between(point, other_point)


def drawn(program, *, start=(0, 0, 0), pen=True):
    """The picture that a program draws."""
    check_program(program)
    check_pose(start)
    return Picture(odd_ones(edges_passed(program, start, pen)))


def passes_of(program, *, start=(0, 0, 0), pen=True):
    """The ascending list of the edges that are passed with the pen down, each with the number of passes."""
    check_program(program)
    check_pose(start)
    passes = tally(edges_passed(program, start, pen))
    return sorted(passes.items())


def edges_passed(program, start, pen):
    """The edges that are passed with the pen down, one for each pass."""
    moves = track_of(program, start, pen)
    return [_edge_between(before, after) for before, after, stretch in moves if stretch is not None]


def ends_of_edge(edge):
    """The two points at which an edge ends, the least first."""
    x, y, side = edge
    if side == 0:
        return ((x, y), (x + 1, y))
    return ((x, y), (x, y + 1))


def check_edge(edge):
    if not is_edge(edge):
        raise InvalidEdge("not a tuple of two integers and a side")


def check_edges(edges):
    if not isinstance(edges, list) or not all([is_edge(edge) for edge in edges]):
        raise InvalidPicture("not a list of edges")
    if len(set(edges)) < len(edges):
        raise InvalidPicture("an edge stands twice in the list")


def check_picture(picture):
    if not isinstance(picture, Picture):
        raise InvalidPicture("not a Picture")


def _edge_between(point, other_point):
    """What edge_between tells of two points."""
    x, y = min(point, other_point)
    last = max(point, other_point)
    if last == (x + 1, y):
        return (x, y, 0)
    if last == (x, y + 1):
        return (x, y, 1)
    return None


def _turned_edge(edge):
    x, y, side = edge
    return (-y, x, 1) if side == 0 else (-y - 1, x, 0)
