"""Console."""

import unittest

from helpers import DRIFTING, WRONG_VALUES, check_too_large
from plotpens.art import show_art
from plotpens.console import Console
from plotpens.errors import (InvalidCommand, InvalidPose, InvalidText, InvalidTimes, NotDrifting, NotEven, Nothing, PlotError,
                             TooLarge)
from plotpens.faces import count_inside
from plotpens.far import count_edges, strokes_after
from plotpens.growth import growth_of
from plotpens.motions import motion_of
from plotpens.odds import odd_points
from plotpens.paths import stretches_of
from plotpens.pictures import drawn
from plotpens.programs import Program
from plotpens.sheets import Sheet
from plotpens.strokes import fewest_plain, fewest_toggled
from plotpens.writing import packed, program_for

MOST = 10 ** 30
TEXTS = ["", "f", "f l f2 r", "( f l )4", "( f2 l )4 u f", "f f f l l b u d f", "u", "( f l f r )3 b2", f"u f{MOST} d f"] + DRIFTING
NO_COMMANDS = WRONG_VALUES + [
    "", " ", "  ", "\n", "x", "Pose", "POSE", "pose ", " pose", "pose  ", "pose 1", "pose\n", "\npose", "pose\npose", "pose\t", "po se",
    "program", "Program f", " program f", "programf", "program\tf", "program\nf", "program f\n", "program f\ng", "programs f",
    "pack ", "pack 1", "pack f", "steps ", "steps 1", "words 0", "motion 1", "growth 1", "wipe 1", "undo 1", "plan 1", "edges 5",
    "odd 1", "strokes 2", "inside 0", "ok", "-", "read", "say pose", "count", "count ", "count  1", "count 1 ", "count 1 2", " count 1",
    "count x", "count -1", "count -0", "count 01", "count 00", "count +1", "count 1.0", "count 1e3", "count 1_000", "count 0x1",
    "count ", "count " + "1" * 32, "count " + "9" * 32, "count " + "0" * 31, "count " + "1" * 5000, "count 1\n", "count \u0663",
    "count \u00b2", "count \uff11", "needed", "needed -1", "needed 01", "needed x", "needed " + "1" * 32, "needed 1 1", "play", "play ",
    "play -1", "play 1 2", "play 01", "play f", "play " + "1" * 32, "play  1", "play 1 ", "play 1\n", "art", "art ", "art -1", "art 00",
    "art 01", "art x", "art 0 0", "art -0", "art " + "1" * 32, "art 1 ", "jump", "jump ", "jump 1", "jump 1 2", "jump 1 2 3 4",
    "jump 1 2 -3", "jump 1 2 -0", "jump -0 2 3", "jump 1 -0 3", "jump 01 2 3", "jump 1 02 3", "jump 1 2 03", "jump --1 2 3",
    "jump +1 2 3", "jump - 2 3", "jump 1  2 3", "jump 1 2 3 ", " jump 1 2 3", "jump 1,2,3", "jump x 2 3", "jump 1 y 3", "jump 1 2 h",
    "jump 1 2", "jump -01 2 3", "jump 1 -00 3", "jump " + "1" * 32 + " 2 3", "jump 1 -" + "1" * 32 + " 3", "jump 1 2 " + "1" * 32,
    "jump 1 2 3\n", "jump (1, 2, 3)", "jump 1.0 2 3", "jump 1- 2 3", "lay 1", "log", "preview", "of", "turn 1", "help", "quit"]


def said(*rows):
    """A console that has been told some rows, and its answers."""
    console = Console()
    return console, [console.say(row) for row in rows]


def state_of(console):
    """What a console tells of its program and its sheet."""
    return [console.say(row) for row in ["steps", "words", "motion", "pose", "edges", "odd", "strokes"]]


class ProgramTest(unittest.TestCase):
    def test_what_is_told_of_programs(self):
        for text in TEXTS:
            program = Program(text)
            console, answers = said(f"program {text}")
            self.assertEqual(answers, ["ok"])
            self.assertEqual(console.say("steps"), str(program.length))
            self.assertEqual(console.say("words"), str(len(program)))
            motion = motion_of(program)
            self.assertEqual(console.say("motion"), f"{motion.turn} {motion.shift[0]} {motion.shift[1]}")
            if program.length <= 60:
                self.assertEqual(console.say("pack"), packed(program).text or "-")
                self.assertEqual(console.say("words"), str(len(packed(program))))
                self.assertEqual(console.say("steps"), str(program.length))

    def test_at_first_it_is_empty(self):
        console = Console()
        self.assertEqual([console.say(row) for row in ["steps", "words", "motion", "pack"]], ["0", "0", "0 0 0", "-"])

    def test_texts_are_taken_as_they_are(self):
        for text, index in [(" f", 0), ("f ", 1), ("f  l", 1), ("x", 0), ("f ( l )", 3), ("( f", 2), ("f1", 0), ("program f", 0), (" ", 0)]:
            console = said("program f l")[0]
            with self.assertRaises(InvalidText) as caught:
                console.say(f"program {text}")
            self.assertEqual(caught.exception.index, index)
            self.assertEqual(console.say("steps"), "2")
        console = said("program f l")[0]
        self.assertEqual(console.say("program "), "ok")
        self.assertEqual(console.say("steps"), "0")

    def test_counts(self):
        for text in TEXTS:
            program = Program(text)
            console = said(f"program {text}")[0]
            for times in [0, 1, 2, 7, MOST - 1, MOST]:
                if program.length <= 1000:
                    self.assertEqual(console.say(f"count {times}"), str(count_edges(program, times)))
                    self.assertEqual(console.say(f"needed {times}"), str(strokes_after(program, times)))
            if program.length <= 200 and motion_of(program).order() is None:
                self.assertEqual(console.say("growth"), " ".join(str(number) for number in growth_of(program)))

    def test_pack_is_kept(self):
        console, answers = said("program f l f l f l f l", "pack", "words", "pack", "play 1", "program f61")
        self.assertEqual(answers, ["ok", "( f l )4", "4", "( f l )4", "4", "ok"])
        check_too_large(self, 60, lambda: console.say("pack"))
        self.assertEqual(console.say("words"), "1")


class SheetTest(unittest.TestCase):
    def test_at_first_it_is_blank(self):
        console = Console()
        rows = ["pose", "edges", "odd", "strokes", "inside", "plan", "steps", "wipe", "undo"]
        self.assertEqual([console.say(row) for row in rows], ["0 0 0", "0", "-", "0 0", "0", "-", "0", "ok", "ok"])
        self.assertRaises(InvalidCommand, console.say, "art 0")
        self.assertRaises(Nothing, console.say, "undo")

    def test_against_sheets(self):
        for text in TEXTS:
            program, sheet = Program(text), Sheet()
            if program.length > 1000:
                continue
            console = said(f"program {text}")[0]
            for pose, times in [((3, -4, 1), 2), ((-10 ** 30, 10 ** 30, 3), 1), ((0, 0, 0), 5)]:
                sheet.jump(pose)
                self.assertEqual(console.say(f"jump {pose[0]} {pose[1]} {pose[2]}"), "ok")
                self.assertEqual(console.say(f"play {times}"), str(sheet.play(program, times=times)))
                self.assertEqual(console.say("pose"), " ".join(str(number) for number in sheet.pose))
                self.assertEqual(console.say("edges"), str(len(sheet)))
                points = " ".join(f"{x},{y}" for x, y in odd_points(sheet.picture))
                self.assertEqual(console.say("odd"), points or "-")
                self.assertEqual(console.say("strokes"), f"{fewest_plain(sheet.picture)} {fewest_toggled(sheet.picture)}")
                if points:
                    self.assertRaises(NotEven, console.say, "inside")
                else:
                    self.assertEqual(console.say("inside"), str(count_inside(sheet.picture)))
            for _ in range(6):
                self.assertEqual(console.say("undo"), "ok")
                sheet.undo()
                self.assertEqual(console.say("edges"), str(len(sheet)))
            self.assertRaises(Nothing, console.say, "undo")

    def test_wipe_and_undo(self):
        console, answers = said("program f l f2 r", "play 2", "wipe", "edges", "pose", "undo", "edges", "undo", "edges", "pose")
        self.assertEqual(answers, ["ok", "6", "ok", "0", "2 4 0", "ok", "6", "ok", "0", "0 0 0"])

    def test_undo_leaves_the_program(self):
        console = said("program f l f2 r", "play 2", "program b", "undo")[0]
        self.assertEqual(console.say("motion"), "0 -1 0")

    def test_plan(self):
        for text in TEXTS:
            for times in [1, 2, 3]:
                if Program(text).length > 1000 or count_edges(Program(text), times) > 40:
                    continue
                console = said(f"program {text}", f"play {times}")[0]
                sheet = Sheet()
                sheet.play(Program(text), times=times)
                answer = console.say("plan")
                self.assertEqual(answer, program_for(sheet.picture).text or "-")
                plan = Program("" if answer == "-" else answer)
                self.assertEqual(drawn(plan, pen=False), sheet.picture)
                self.assertEqual(len(stretches_of(plan, pen=False)), fewest_toggled(sheet.picture))
                self.assertEqual(console.say("steps"), str(plan.length))
                self.assertEqual(console.say("edges"), str(len(sheet)))
        console = said("program f41", "play 1")[0]
        check_too_large(self, 40, lambda: console.say("plan"))
        self.assertEqual(console.say("steps"), "41")
        console = said("program f", f"jump {9 * MOST} 0 0", "play 1")[0]
        check_too_large(self, MOST, lambda: console.say("plan"))

    def test_art(self):
        for text in TEXTS:
            if Program(text).length > 1000:
                continue
            console = said(f"program {text}", "jump -5 9 1", "play 3")[0]
            sheet = Sheet()
            sheet.jump((-5, 9, 1))
            sheet.play(Program(text), times=3)
            rows = show_art(sheet.picture)
            self.assertEqual([console.say(f"art {index}") for index in range(len(rows))], rows)
            for index in [len(rows), len(rows) + 1, 10 ** 30, 10 ** 31 - 1]:
                self.assertRaises(InvalidCommand, console.say, f"art {index}")
        console = said("program f41", "play 1")[0]
        for index in [0, 1, 5]:
            check_too_large(self, 40, lambda: console.say(f"art {index}"))
        self.assertEqual(said("program l f u f l f d f", "play 1", "art 1")[1][2], "     ")


class ErrorsTest(unittest.TestCase):
    def test_rows_of_no_form(self):
        console = said("program f l f2 r", "play 2", "jump 7 -8 3")[0]
        before = state_of(console)
        for row in NO_COMMANDS:
            with self.subTest(row=repr(row)[:80]), self.assertRaises(InvalidCommand):
                console.say(row)
        self.assertEqual(state_of(console), before)

    def test_rows_whose_functions_raise_errors(self):
        wrong = [("program f x", InvalidText), ("program (", InvalidText), ("play 0", InvalidTimes), (f"play {MOST + 1}", InvalidTimes),
                 ("play " + "9" * 31, InvalidTimes), ("play 5000", TooLarge), (f"play {MOST}", TooLarge), ("jump 0 0 4", InvalidPose),
                 ("jump -5 6 10", InvalidPose), ("jump 0 0 " + "9" * 31, InvalidPose), ("count " + "9" * 31, InvalidTimes),
                 (f"count {MOST + 1}", InvalidTimes), (f"needed {MOST + 1}", InvalidTimes), ("inside", NotEven),
                 ("art 99", InvalidCommand), ("plan x", InvalidCommand)]
        console = said("program f l f2 r", "play 2", "jump 7 -8 3")[0]
        before = state_of(console)
        for row, error in wrong:
            with self.subTest(row=row), self.assertRaises(error):
                console.say(row)
            self.assertEqual(state_of(console), before)
        self.assertEqual(console.say("undo"), "ok")
        self.assertEqual(console.say("pose"), "2 4 0")

    def test_programs_that_are_too_long(self):
        console = said("program f1001")[0]
        for row in ["count 1", "needed 1", "play 1"]:
            check_too_large(self, 1000, lambda: console.say(row))
        for row in ["count 1" + "0" * 30 + "0", "play 00"]:
            self.assertRaises(InvalidCommand, console.say, row)
        self.assertRaises(InvalidTimes, console.say, "play 0")
        check_too_large(self, 200, lambda: console.say("growth"))
        self.assertEqual(console.say("steps"), "1001")
        console.say("program f l")
        self.assertRaises(NotDrifting, console.say, "growth")

    def test_numbers_of_thirty_one_digits(self):
        large = "9" * 31
        console, answers = said(f"jump {large} -{large} 0", "pose", "jump 0 -1 3", "pose", "jump -5 0 0", "pose")
        self.assertEqual(answers, ["ok", f"{large} -{large} 0", "ok", "0 -1 3", "ok", "-5 0 0"])
        console, answers = said("program f", f"count 1{'0' * 30}", f"needed 1{'0' * 30}")
        self.assertEqual(answers, ["ok", "1" + "0" * 30, "1"])

    def test_consoles_share_nothing(self):
        one, two = Console(), Console()
        one.say("program f l f2 r"), one.say("play 2")
        self.assertEqual(state_of(two), state_of(Console()))
        two.say("program b"), two.say("wipe")
        self.assertEqual([one.say("edges"), one.say("steps")], ["6", "5"])

    def test_answers_are_strings(self):
        console = Console()
        for row in ["program f l f2 r", "pack", "steps", "words", "motion", "play 2", "jump 0 0 0", "wipe", "undo", "pose", "edges", "odd",
                    "strokes", "art 0", "count 5", "needed 5", "growth", "plan", "undo", "undo", "inside"]:
            self.assertIs(type(console.say(row)), str, row)

    def test_all_errors_are_errors_of_the_package(self):
        for row in NO_COMMANDS + ["undo", "play 0", "jump 0 0 5", "growth", "art 0", "program ("]:
            self.assertRaises(PlotError, Console().say, row)


if __name__ == "__main__":
    unittest.main()
