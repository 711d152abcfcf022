"""Tracks: what short programs do, step by step."""

from plotpens.motions import motion_of_letter
from plotpens.programs import written

ORIGIN = (0, 0, 0)


def poses_of(program, start):
    """The list of the poses: the first one, and one after each step. TooLarge(1000) is raised for longer programs."""
    poses = [start]
    for step in written(program):
        motion = motion_of_letter(step)
        poses.append(motion(poses[-1]))
    return poses


def track_of(program, start, pen):
    """The list of the moves: the point in front, the point behind, and a number, the same one for all moves of a
    stretch; None instead if the pen is up. TooLarge(1000) is raised for longer programs."""
    poses = poses_of(program, start)
    down = pen
    lifts = 0
    moves = []
    for step, before, after in zip(written(program), poses, poses[1:]):
        if step == "u":
            down = False
            lifts = lifts + 1
        elif step == "d":
            down = True
        elif before[:2] != after[:2]:
            moves.append((before[:2], after[:2], lifts if down else None))
    return moves
