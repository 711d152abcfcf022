"""Motions: where programs lead, however many steps they have."""

from plotpens.checks import MOST_TIMES, check_pose, is_integer_within, is_point
from plotpens.errors import InvalidMotion, InvalidTimes
from plotpens.programs import check_index, check_program

MOVE_SHIFTS = {"f": (1, 0), "b": (-1, 0)}
TURNS = {"l": 1, "r": 3}


class Motion:
    """How a pose is turned, and shifted as its heading says."""

    def __init__(self, turn, dx, dy):
        if not is_integer_within(turn, 0, 3) or not is_point((dx, dy)):
            raise InvalidMotion("not an integer from 0 to 3 and two integers")
        self._turn = turn
        self._shift = (dx, dy)

    @property
    def turn(self):
        return self._turn

    @property
    def shift(self):
        return self._shift

    def __call__(self, pose):
        check_pose(pose)
        x, y, heading = pose
        dx, dy = turned_point(self._shift, heading)
        return (x + dx, y + dy, (heading + self._turn) % 4)

    def __eq__(self, other):
        return isinstance(other, Motion) and self._turn == other._turn and self._shift == other._shift

    def __add__(self, other):
        check_motion(other)
        x, y = self._shift
        dx, dy = turned_point(other._shift, self._turn)
        return Motion((self._turn + other._turn) % 4, x + dx, y + dy)

    def __mul__(self, other):
        if not is_integer_within(other, -MOST_TIMES, MOST_TIMES):
            raise InvalidTimes("not an integer from -10 ** 30 to 10 ** 30")
        if self._turn == 0:
            dx, dy = self._shift
            return Motion(0, dx * other, dy * other)
        # With a turn, four times lead back to every pose.
        found = Motion(0, 0, 0)
        for _ in range(other % 4):
            found = found + self
        return found

    def __neg__(self):
        turn = (4 - self._turn) % 4
        dx, dy = turned_point(self._shift, turn)
        return Motion(turn, -dx, -dy)

    def order(self):
        """The least number of times, at least 1, that leads back to every pose; None if there is none."""
        if self._turn == 0:
            return 1 if self._shift == (0, 0) else None
        return 2 if self._turn == 2 else 4


def motion_of(program):
    """The motion of a program."""
    check_program(program)
    return _motion_until(program._parts, program.length)


def pose_after(program, index, *, start=(0, 0, 0)):
    """The pose after so many steps of a program."""
    check_program(program)
    check_index(index, program.length)
    check_pose(start)
    motion = _motion_until(program._parts, index)
    return motion(start)


def pen_after(program, *, pen=True):
    """Whether the pen is down at the end of a program."""
    check_program(program)
    last = _last_pen(program._parts)
    return pen if last is None else last == "d"


def motion_of_letter(letter):
    """The motion of one step."""
    dx, dy = MOVE_SHIFTS.get(letter, (0, 0))
    return Motion(TURNS.get(letter, 0), dx, dy)


def turned_point(point, quarters):
    """A point turned about (0, 0)."""
    x, y = point
    for _ in range(quarters):
        x, y = -y, x
    return (x, y)


def times_shifted(way, shift):
    """The least number of times, from 0 on, that a shift has to be made for a way; None if there is none."""
    dx, dy = shift
    if dx != 0:
        times = way[0] // dx
    elif dy != 0:
        times = way[1] // dy
    else:
        times = 0
    if times >= 0 and way == (times * dx, times * dy):
        return times
    return None


def check_motion(motion):
    if not isinstance(motion, Motion):
        raise InvalidMotion("not a Motion")


def _motion_until(parts, index):
    """The motion of so many steps from the first one on."""
    motion = Motion(0, 0, 0)
    at = 0
    while index > 0:
        part = parts[at]
        taken = min(index, part.size)
        motion = motion + _motion_in_part(part, taken)
        index = index - taken
        at = at + 1
    return motion


def _motion_in_part(part, index):
    """The motion of so many steps of a part, from its first one on."""
    if not part.inner:
        return motion_of_letter(part.letter) * index
    whole = _motion_until(part.inner, part.unit) * (index // part.unit)
    return whole + _motion_until(part.inner, index % part.unit)


def _last_pen(parts):
    """The last letter that lifts the pen or puts it down; None if there is none."""
    for part in reversed(parts):
        letter = _last_pen(part.inner) if part.inner else part.letter
        if letter == "u" or letter == "d":
            return letter
    return None
