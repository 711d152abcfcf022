"""Tracks: what short programs do, step by step."""

from plotpens.programs import written

ORIGIN = (0, 0, 0)
AHEAD = ((1, 0), (0, 1), (-1, 0), (0, -1))


def poses_of(program, start):
    """The list of the poses: the first one, and one after each step. TooLarge(1000) is raised for longer programs."""
    x, y, heading = start
    poses = [start]
    for step in written(program):
        dx, dy = AHEAD[heading]
        if step == "f":
            x, y = x + dx, y + dy
        elif step == "b":
            x, y = x - dx, y - dy
        elif step == "l":
            heading = (heading + 1) % 4
        elif step == "r":
            heading = (heading + 3) % 4
        poses.append((x, y, heading))
    return poses


def track_of(program, start, pen):
    """The list of the moves: the point in front, the point behind, and a number, the same one for all moves of a
    stretch; None instead if the pen is up. TooLarge(1000) is raised for longer programs."""
    poses = poses_of(program, start)
    down = pen
    lifts = 0
    moves = []
    for step, before, after in zip(written(program), poses, poses[1:]):
        if step == "u":
            down = False
            lifts = lifts + 1
        elif step == "d":
            down = True
        elif before[:2] != after[:2]:
            moves.append((before[:2], after[:2], lifts if down else None))
    return moves
