"""Paths: the points at which the pen is."""

from plotpens.checks import check_point, check_pose
from plotpens.motions import motion_of, times_shifted
from plotpens.programs import check_program
from plotpens.tracks import ORIGIN, poses_of, track_of


def points_of(program, *, start=(0, 0, 0)):
    """The list of the points of the pen: the first one, and one after each move."""
    check_program(program)
    check_pose(start)
    moves = track_of(program, start, True)
    return [start[:2]] + [after for before, after, stretch in moves]


def stretches_of(program, *, start=(0, 0, 0), pen=True):
    """The list of the stretches as strokes."""
    check_program(program)
    check_pose(start)
    found = []
    last = None
    for before, after, stretch in track_of(program, start, pen):
        if stretch is None:
            continue
        if stretch == last:
            found[-1].append(after)
        else:
            found.append([before, after])
            last = stretch
    return [tuple(points) for points in found]


def first_at(program, point):
    """The least number of steps, round after round, after which the pen is at a point; None if it never is."""
    check_program(program)
    check_point(point)
    poses = poses_of(program, ORIGIN)
    motion = motion_of(program)
    if motion.order() is None:
        return _first_drifting(poses, motion.shift, point)
    return _first_closing(program, motion, point)


def _first_drifting(poses, shift, point):
    """first_at for rounds that drift, with the poses of the first one."""
    length = len(poses) - 1
    found = []
    for index, (x, y, heading) in enumerate(poses):
        rounds = times_shifted((point[0] - x, point[1] - y), shift)
        if rounds is not None:
            found.append(rounds * length + index)
    return min(found, default=None)


def _first_closing(program, motion, point):
    """first_at for rounds that close: those behind the first few repeat them."""
    for number in range(motion.order()):
        ahead = motion * number
        poses = poses_of(program, ahead(ORIGIN))
        for index, pose in enumerate(poses):
            if pose[:2] == point:
                return number * program.length + index
    return None
