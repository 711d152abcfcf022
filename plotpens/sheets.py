"""Sheets: pictures that change, call by call, and can be changed back."""

from plotpens.checks import MOST_TIMES, check_pose, is_integer_within
from plotpens.errors import InvalidOperation, InvalidTimes, Nothing, TooLarge
from plotpens.motions import motion_of
from plotpens.pictures import Picture, check_picture
from plotpens.programs import MOST_STEPS, check_length, check_program
from plotpens.rows import count_in_rows, picture_of_rows, rows_after
from plotpens.tracks import ORIGIN

SIZES = {"play": 3, "jump": 2, "lay": 2, "wipe": 1}


class Sheet:
    """A picture that changes, and the pose of the pen."""

    MOST = 4000

    def __init__(self):
        self._picture = Picture([])
        self._pose = ORIGIN
        # The calls that are not undone, each with the picture and the pose in front of it.
        self._past = []

    @classmethod
    def of(cls, *edges):
        """A sheet with these edges."""
        sheet = cls()
        sheet._picture = Picture(list(edges))
        if len(sheet._picture) > cls.MOST:
            raise TooLarge(cls.MOST)
        return sheet

    @property
    def picture(self):
        return self._picture

    @property
    def pose(self):
        return self._pose

    def __len__(self):
        return len(self._picture)

    def __eq__(self, other):
        return isinstance(other, Sheet) and self._picture == other._picture and self._pose == other._pose

    def play(self, program, *, times=1):
        """Toggles so many rounds from the pose; returns the number of edges."""
        check_program(program)
        if not is_integer_within(times, 1, MOST_TIMES):
            raise InvalidTimes("not an integer from 1 to 10 ** 30")
        check_length(program, MOST_STEPS)
        rows = rows_after(program, times)
        # The edges that are there can take away only as many; far more than that cannot even be listed.
        if count_in_rows(rows) > self.MOST + len(self._picture):
            raise TooLarge(self.MOST)
        x, y, heading = self._pose
        played = picture_of_rows(program, rows).turned(heading).moved(x, y)
        motion = motion_of(program) * times
        return self._keep(("play", program, times), self._picture ^ played, motion(self._pose))

    def jump(self, pose):
        """Goes to a pose without drawing; returns the old pose."""
        check_pose(pose)
        old = self._pose
        self._keep(("jump", pose), self._picture, pose)
        return old

    def lay(self, picture):
        """Toggles all edges of a picture; returns the number of edges."""
        check_picture(picture)
        return self._keep(("lay", picture), self._picture ^ picture, self._pose)

    def wipe(self):
        """Removes all edges; returns their number."""
        many = len(self._picture)
        self._keep(("wipe",), Picture([]), self._pose)
        return many

    def undo(self):
        """Reverts the last call that is not undone."""
        if not self._past:
            raise Nothing("no call is left to be undone")
        _, self._picture, self._pose = self._past.pop()

    def log(self):
        """The list of the calls that are not undone."""
        return [call for call, picture, pose in self._past]

    def preview(self, *operations):
        """The picture after operations, which the sheet itself does not keep."""
        if not all([_is_operation(operation) for operation in operations]):
            raise InvalidOperation("not a call as it stands in a log")
        sheet = Sheet()
        sheet._picture = self._picture
        sheet._pose = self._pose
        for operation in operations:
            sheet._perform(operation)
        return sheet._picture

    def _keep(self, call, picture, pose):
        """Goes on with a picture and a pose; returns the number of edges."""
        if len(picture) > self.MOST:
            raise TooLarge(self.MOST)
        self._past.append((call, self._picture, self._pose))
        self._picture = picture
        self._pose = pose
        return len(picture)

    def _perform(self, operation):
        name = operation[0]
        if name == "play":
            self.play(operation[1], times=operation[2])
        elif name == "jump":
            self.jump(operation[1])
        elif name == "lay":
            self.lay(operation[1])
        else:
            self.wipe()


def _is_operation(value):
    """Whether any value is a call as it is written in a log, whatever its items behind the first one are."""
    if not isinstance(value, tuple) or not value or not isinstance(value[0], str):
        return False
    return len(value) == SIZES.get(value[0], 0)
