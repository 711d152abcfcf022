import inspect
import unittest

from plotpens import errors
from plotpens.errors import InvalidSource, InvalidText, PlotError, TooDeep, TooLarge

WITH_FIELDS = ["InvalidText", "InvalidSource", "TooDeep", "TooLarge"]
WITH_MESSAGE = [
    "InvalidProgram", "InvalidTimes", "InvalidIndex", "InvalidLetter", "InvalidName", "HasPen", "InvalidMotion",
    "InvalidPose", "InvalidPoint", "InvalidEdge", "InvalidPicture", "InvalidTurn", "InvalidFace", "InvalidFaces",
    "NotEven", "NotClosed", "InvalidIntervals", "InvalidPlace", "NotDrifting", "InvalidCount", "NoSteps",
    "InvalidOperation", "Nothing", "InvalidArt", "InvalidCommand",
]


class ErrorsTest(unittest.TestCase):
    def test_plot_error_is_a_value_error(self):
        self.assertEqual(PlotError.__bases__, (ValueError,))

    def test_each_is_a_direct_subclass(self):
        for name in WITH_FIELDS + WITH_MESSAGE:
            with self.subTest(name=name):
                self.assertEqual(getattr(errors, name).__bases__, (PlotError,))
                self.assertEqual(getattr(errors, name).__module__, "plotpens.errors")

    def test_there_are_no_others(self):
        found = [name for name, value in vars(errors).items() if inspect.isclass(value)]
        self.assertEqual(sorted(found), sorted(WITH_FIELDS + WITH_MESSAGE + ["PlotError"]))

    def test_none_belongs_to_another_one(self):
        for name in WITH_FIELDS + WITH_MESSAGE:
            for other in WITH_FIELDS + WITH_MESSAGE:
                if name != other:
                    self.assertFalse(issubclass(getattr(errors, name), getattr(errors, other)))

    def test_those_with_a_message_keep_it(self):
        for name in WITH_MESSAGE + ["PlotError"]:
            with self.subTest(name=name):
                self.assertEqual(str(getattr(errors, name)("so it is")), "so it is")

    def test_those_with_fields_keep_them(self):
        for value in [0, 7, None, 10 ** 30]:
            self.assertEqual(InvalidText(value).index, value)
            self.assertEqual(InvalidText(index=value).index, value)
            self.assertEqual(TooDeep(value).limit, value)
            self.assertEqual(TooDeep(limit=value).limit, value)
            self.assertEqual(TooLarge(value).limit, value)
            self.assertEqual(TooLarge(limit=value).limit, value)
        for found in [InvalidSource(3, 4), InvalidSource(index=4, line=3)]:
            self.assertEqual((found.line, found.index), (3, 4))
        self.assertEqual((InvalidSource(None, None).line, InvalidSource(None, None).index), (None, None))

    def test_each_is_raised_and_caught_by_its_name(self):
        for name in WITH_MESSAGE:
            kind = getattr(errors, name)
            with self.assertRaises(kind):
                raise kind("so it is")


if __name__ == "__main__":
    unittest.main()
