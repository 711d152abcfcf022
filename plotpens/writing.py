"""Writing programs: for pictures, and with as few words as possible."""

from plotpens.checks import MOST_TIMES
from plotpens.errors import TooLarge
from plotpens.packing import packed_words
from plotpens.pictures import check_picture, ends_of_edge
from plotpens.programs import Program, check_length, check_program, written
from plotpens.routes import routes_of

MOST_EDGES = 40
MOST_FAR = 10 ** 30
MOST_PACKED = 60
TURNS = {1: "l", 3: "r"}


def program_for(picture):
    """A program that draws a picture from (0, 0, 0), the pen up at first, in as few stretches as possible."""
    check_picture(picture)
    if len(picture) > MOST_EDGES:
        raise TooLarge(MOST_EDGES)
    points = [point for edge in picture.edges for point in ends_of_edge(edge)]
    if not all([abs(number) <= MOST_FAR for point in points for number in point]):
        raise TooLarge(MOST_FAR)
    return Program(" ".join(_words_for(routes_of(picture))))


def fewest_words(program):
    """The least number of words of a program text with the same steps."""
    return len(_packed_words(program))


def packed(program):
    """A program with the same steps in as few words as possible."""
    return Program(" ".join(_packed_words(program)))


def _packed_words(program):
    check_program(program)
    check_length(program, MOST_PACKED)
    return packed_words(written(program))


def _words_for(routes):
    """The words that lead the pen, up at first, along all routes."""
    words = []
    point = (0, 0)
    heading = 0
    for route in routes:
        if words:
            words.append("u")
        first = route[0]
        there, heading = _words_along([point, (first[0], point[1]), first], heading)
        along, heading = _words_along(route, heading)
        words.extend(there + ["d"] + along)
        point = route[-1]
    return words


def _words_along(route, heading):
    """The words that lead along a route, and the heading behind them."""
    words = []
    for direction, distance in _legs_of(route):
        quarters = (direction - heading) % 4
        if quarters == 1 or quarters == 3:
            words.append(TURNS[quarters])
            heading = direction
        words.extend(_counted("b" if quarters == 2 else "f", distance))
    return words, heading


def _legs_of(route):
    """The list of the directions, each with its distance, in which a route goes until it turns."""
    legs = []
    for (x, y), (next_x, next_y) in zip(route, route[1:]):
        distance = abs(next_x - x) + abs(next_y - y)
        direction = _direction(next_x - x, next_y - y)
        if distance > 0 and legs and legs[-1][0] == direction:
            legs[-1] = (direction, legs[-1][1] + distance)
        elif distance > 0:
            legs.append((direction, distance))
    return legs


def _direction(dx, dy):
    """The heading in which a way leads that is not slanting."""
    if dx != 0:
        return 0 if dx > 0 else 2
    return 1 if dy > 0 else 3


def _counted(letter, times):
    """The words for a letter so many times, which may be more than one word can tell."""
    words = []
    while times > MOST_TIMES:
        words.append(f"{letter}{MOST_TIMES}")
        times = times - MOST_TIMES
    return words + [letter if times == 1 else f"{letter}{times}"]
