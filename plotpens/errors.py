"""The errors of the package."""


class PlotError(ValueError):
    """What all errors of the package have in common."""


class InvalidText(PlotError):
    """A value is not a program text; index is the number of the first wrong word, or None."""

    def __init__(self, index):
        PlotError.__init__(self, f"not a program text, first wrong word: {index}")
        self.index = index


class InvalidSource(PlotError):
    """A value is not a source; line and index tell the first wrong word, or both are None."""

    def __init__(self, line, index):
        PlotError.__init__(self, f"not a source, first wrong line: {line}, word in it: {index}")
        self.line = line
        self.index = index


class TooDeep(PlotError):
    """Repeats would be nested deeper than the limit."""

    def __init__(self, limit):
        PlotError.__init__(self, f"repeats nested deeper than {limit}")
        self.limit = limit


class TooLarge(PlotError):
    """Something is larger than the limit."""

    def __init__(self, limit):
        PlotError.__init__(self, f"larger than {limit}")
        self.limit = limit


class InvalidProgram(PlotError):
    """A value is not a Program."""


class InvalidTimes(PlotError):
    """A value is not a number of times."""


class InvalidIndex(PlotError):
    """A value is not the index of a step."""


class InvalidLetter(PlotError):
    """A value is not the letter of a step."""


class InvalidName(PlotError):
    """A value is not one of the names of a source."""


class HasPen(PlotError):
    """A program lifts or lowers the pen where it must not."""


class InvalidMotion(PlotError):
    """A value is not a motion."""


class InvalidPose(PlotError):
    """A value is not a pose."""


class InvalidPoint(PlotError):
    """A value is not a point."""


class InvalidEdge(PlotError):
    """A value is not an edge."""


class InvalidPicture(PlotError):
    """A value is not a picture."""


class InvalidTurn(PlotError):
    """A value is not a number of quarters."""


class InvalidFace(PlotError):
    """A value is not a face."""


class InvalidFaces(PlotError):
    """A value is not a list of different faces."""


class NotEven(PlotError):
    """A picture has odd points."""


class NotClosed(PlotError):
    """A path does not end where it begins."""


class InvalidIntervals(PlotError):
    """A value is not a list of intervals."""


class InvalidPlace(PlotError):
    """A value is not a place on the line of integers."""


class NotDrifting(PlotError):
    """The rounds of a program do not drift."""


class InvalidCount(PlotError):
    """A value is not a count."""


class NoSteps(PlotError):
    """A program is empty."""


class InvalidOperation(PlotError):
    """A value is not an operation on a sheet."""


class Nothing(PlotError):
    """There is nothing to undo."""


class InvalidArt(PlotError):
    """A value is not the art of a picture."""


class InvalidCommand(PlotError):
    """A value is not a row that the console knows."""
