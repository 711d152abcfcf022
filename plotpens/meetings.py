"""Meetings: when two plotters are at one point, if they take their steps at the same time."""

from math import lcm

from plotpens.checks import check_pose
from plotpens.errors import NoSteps
from plotpens.motions import times_shifted
from plotpens.programs import check_length, check_program
from plotpens.tracks import poses_of

MOST_MEETING = 60


def meeting(program, start, other, other_start):
    """The least number of steps after which both pens are at one point, and this point; None if they never are."""
    check_program(program)
    check_pose(start)
    check_program(other)
    check_pose(other_start)
    if program.length == 0 or other.length == 0:
        raise NoSteps("a program is empty")
    check_length(program, MOST_MEETING)
    check_length(other, MOST_MEETING)
    return _meeting(_cycle_of(program, start), _cycle_of(other, other_start))


def _cycle_of(program, start):
    """The points of a plotter, step by step, until it has its first heading again behind a round; then all of this
    comes again, shifted. Also the shift."""
    points = []
    pose = start
    while not points or pose[2] != start[2]:
        poses = poses_of(program, pose)
        points.extend([(x, y) for x, y, heading in poses[:-1]])
        pose = poses[-1]
    return points, (pose[0] - start[0], pose[1] - start[1])


def _meeting(cycle, other_cycle):
    """What meeting tells, for the cycles of both plotters."""
    many = lcm(len(cycle[0]), len(other_cycle[0]))
    ways = [_way_after(cycle, other_cycle, steps) for steps in range(many + 1)]
    # So many steps later the way from one pen to the other has always changed by the same.
    change = (ways[many][0] - ways[0][0], ways[many][1] - ways[0][1])
    found = []
    for steps, (dx, dy) in enumerate(ways[:many]):
        times = times_shifted((-dx, -dy), change)
        if times is not None:
            found.append(times * many + steps)
    if not found:
        return None
    return (min(found), _point_after(cycle, min(found)))


def _point_after(cycle, steps):
    """The point of a plotter after so many steps."""
    points, (dx, dy) = cycle
    times = steps // len(points)
    x, y = points[steps % len(points)]
    return (x + times * dx, y + times * dy)


def _way_after(cycle, other_cycle, steps):
    """The way from one plotter to the other one after so many steps."""
    x, y = _point_after(cycle, steps)
    other_x, other_y = _point_after(other_cycle, steps)
    return (other_x - x, other_y - y)
