"""Sheet."""

import random
import unittest

from helpers import (CLOSING, DRIFTING, WRONG_EDGES, WRONG_POSES, WRONG_VALUES, Same, all_steps, check_too_large, edges_passed,
                     nested, some_texts, toggled, walk)
from plotpens.errors import (InvalidOperation, InvalidPicture, InvalidPose, InvalidProgram, InvalidTimes, Nothing, PlotError,
                             TooLarge)
from plotpens.far import count_edges, picture_after
from plotpens.motions import motion_of
from plotpens.pictures import Picture, drawn
from plotpens.programs import Program
from plotpens.sheets import Sheet

MOST = 10 ** 30
BLANK = Picture([])
STAIR = Program("f l f2 r")
LONG = Program("f1001")
WRONG_PROGRAMS = WRONG_VALUES + ["f", "", (), [STAIR], drawn(STAIR)]
WRONG_PICTURES = WRONG_VALUES + ["", [], (), [(0, 0, 0)], ((0, 0, 0),), (0, 0, 0), STAIR]
WRONG_TIMES = WRONG_VALUES[:4] + WRONG_VALUES[5:] + ["", "1", -1, MOST + 1, [1], (1,), [], ()]
TEXTS = DRIFTING + CLOSING + some_texts(181, 40, 7)
FORMS = [("play", STAIR, 2), ("jump", (1, 2, 3)), ("lay", drawn(STAIR)), ("wipe",)]
NO_OPERATIONS = WRONG_VALUES + [
    "", "wipe", "jump", [], ["wipe"], (), ("undo",), ("log",), ("len",), ("",), (None,), (0,), (True,), (b"wipe",), (["wipe"],),
    (("wipe",),), ("wipe", None), ("wipe", 1), ("wipe", ()), ("jump",), ("jump", (0, 0, 0), 1), ("lay",), ("lay", BLANK, BLANK),
    ("play",), ("play", STAIR), ("play", STAIR, 1, 1), ("Play", STAIR, 1), ("wipe ",), ("preview", ("wipe",)), (Same(),),
    (Same(), STAIR, 1), ("of", (0, 0, 0)), {"wipe"}, {"wipe": 1}, (1, 2, 3), (0, 0, 0), ("play", "jump", "lay", "wipe")]


def state_of(sheet):
    return (sheet.picture, sheet.pose, sheet.log(), len(sheet))


class Model:
    """A sheet by another way: a set of edges, with all states kept."""

    def __init__(self):
        self.states = [(frozenset(), (0, 0, 0))]
        self.calls = []

    def go(self, call, edges, pose):
        self.states.append((frozenset(edges), pose))
        self.calls.append(call)

    def play(self, text, times):
        edges, pose = self.states[-1]
        steps = all_steps(text)
        for _ in range(times):
            edges = edges ^ toggled(edges_passed(steps, pose, True))
            pose = walk(steps, pose, True)[-1][:3]
        self.go(("play", Program(text), times), edges, pose)
        return len(edges)

    def jump(self, pose):
        old = self.states[-1][1]
        self.go(("jump", pose), self.states[-1][0], pose)
        return old

    def lay(self, picture):
        edges = self.states[-1][0] ^ set(picture.edges)
        self.go(("lay", picture), edges, self.states[-1][1])
        return len(edges)

    def wipe(self):
        many = len(self.states[-1][0])
        self.go(("wipe",), frozenset(), self.states[-1][1])
        return many

    def undo(self):
        self.states.pop()
        self.calls.pop()


class PlayTest(unittest.TestCase):
    def test_once_and_some_times_at_any_pose(self):
        for text in TEXTS:
            for pose in [(0, 0, 0), (3, -2, 1), (-7, 10 ** 60, 2), (5, 5, 3)]:
                for times in [1, 2, 3, 5]:
                    sheet, model = Sheet(), Model()
                    sheet.jump(pose), model.jump(pose)
                    self.assertEqual(sheet.play(Program(text), times=times), model.play(text, times))
                    edges, end = model.states[-1]
                    self.assertEqual(sheet.picture, Picture(sorted(edges)), (text, pose, times))
                    self.assertEqual(sheet.pose, end)

    def test_times_is_one_if_it_is_not_given(self):
        sheet, other = Sheet(), Sheet()
        self.assertEqual(sheet.play(STAIR), other.play(STAIR, times=1))
        self.assertEqual(sheet, other)
        self.assertEqual(sheet.log(), [("play", STAIR, 1)])

    def test_many_times(self):
        sheet = Sheet()
        self.assertEqual(sheet.play(Program("( f2 l )4 u f"), times=MOST), 12)
        self.assertEqual(sheet.pose, (MOST, 0, 0))
        self.assertEqual(sheet.picture, picture_after(Program("( f2 l )4 u f"), MOST))
        self.assertEqual(sheet.play(Program("u b"), times=MOST), 12)
        self.assertEqual(sheet.pose, (0, 0, 0))
        self.assertEqual(sheet.play(Program("( f2 l )4 u f"), times=MOST), 0)
        self.assertEqual(sheet.pose, (MOST, 0, 0))
        self.assertEqual(sheet.play(Program("( f l )3"), times=MOST - 1), Sheet().play(Program("( f l )3"), times=MOST % 8 + 7))
        sheet.jump((-3, 4, 2))
        sheet.wipe()
        self.assertEqual(sheet.play(Program("u f l f r"), times=MOST), 0)
        self.assertEqual(sheet.pose, (-3 - MOST, 4 - MOST, 2))
        for text in CLOSING:
            order = motion_of(Program(text)).order()
            sheet.wipe(), sheet.jump((1, 1, 1))
            self.assertEqual(sheet.play(Program(text), times=2 * order * 10 ** 29), 0)
            self.assertEqual(sheet.pose, (1, 1, 1))

    def test_parted_anywhere(self):
        for text in TEXTS:
            whole = Sheet()
            whole.play(Program(text), times=7)
            for first in range(1, 7):
                parted = Sheet()
                parted.play(Program(text), times=first)
                parted.play(Program(text), times=7 - first)
                self.assertEqual(parted, whole)

    def test_most_edges(self):
        self.assertEqual(Sheet.MOST, 4000)
        self.assertEqual(Sheet().MOST, 4000)
        row = Program("f1000")
        sheet = Sheet()
        self.assertEqual(sheet.play(row, times=4), 4000)
        before = state_of(sheet)
        for times in [1, 2, 5, 9, MOST]:
            check_too_large(self, 4000, lambda: sheet.play(row, times=times))
        check_too_large(self, 4000, lambda: sheet.play(Program("f")))
        check_too_large(self, 4000, lambda: sheet.lay(Picture([(0, 0, 1)])))
        self.assertEqual(state_of(sheet), before)
        sheet.jump((0, 0, 0))
        self.assertEqual(sheet.play(Program("f")), 3999)
        check_too_large(self, 4000, lambda: sheet.play(Program("f l f r"), times=3000))
        check_too_large(self, 4000, lambda: sheet.lay(picture_after(row, 3).moved(0, 1)))
        self.assertEqual(sheet.lay(picture_after(row, 3).moved(1, 0)), 999)
        self.assertEqual(Sheet().play(Program("f"), times=4000), 4000)
        check_too_large(self, 4000, lambda: Sheet().play(Program("f"), times=4001))

    def test_more_edges_than_fit_that_take_others_away(self):
        # 8,000 edges are toggled, of which 4,000 are there already.
        sheet = Sheet()
        sheet.play(Program("f1000"), times=4)
        sheet.jump((0, 0, 0))
        self.assertEqual(sheet.play(Program("f1000"), times=8), 4000)
        self.assertEqual(sheet.picture, picture_after(Program("f1000"), 4).moved(4000, 0))
        sheet.jump((4000, 0, 0))
        check_too_large(self, 4000, lambda: sheet.play(Program("f1000"), times=9))
        check_too_large(self, 4000, lambda: sheet.play(Program("f"), times=8001))
        self.assertEqual(sheet.play(Program("f"), times=8000), 4000)
        sheet.undo()
        wide = picture_after(Program("f1000"), 4).moved(4000, 0) ^ picture_after(Program("f1000"), 4).moved(9000, 0)
        self.assertEqual(len(wide), 8000)
        self.assertEqual(sheet.lay(wide), 4000)
        self.assertEqual(sheet.picture.edges[0], (9000, 0, 0))


class OperationsTest(unittest.TestCase):
    def test_at_first(self):
        sheet = Sheet()
        self.assertEqual(state_of(sheet), (BLANK, (0, 0, 0), [], 0))

    def test_jump_lay_and_wipe(self):
        sheet = Sheet()
        self.assertEqual(sheet.jump((4, 5, 3)), (0, 0, 0))
        self.assertEqual(sheet.jump((4, 5, 3)), (4, 5, 3))
        self.assertEqual(len(sheet), 0)
        self.assertEqual(sheet.lay(drawn(STAIR)), 3)
        self.assertEqual(sheet.pose, (4, 5, 3))
        self.assertEqual(sheet.lay(Picture([(0, 0, 0), (0, 0, 1)])), 3)
        self.assertEqual(sheet.picture.edges, ((0, 0, 1), (1, 0, 1), (1, 1, 1)))
        self.assertEqual(sheet.wipe(), 3)
        self.assertEqual(sheet.wipe(), 0)
        self.assertEqual((sheet.picture, sheet.pose), (BLANK, (4, 5, 3)))
        self.assertEqual(sheet.log(), [("jump", (4, 5, 3)), ("jump", (4, 5, 3)), ("lay", drawn(STAIR)),
                                       ("lay", Picture([(0, 0, 0), (0, 0, 1)])), ("wipe",), ("wipe",)])

    def test_undo_to_the_beginning_and_behind_it(self):
        sheet = Sheet()
        states = [state_of(sheet)]
        for call in [lambda: sheet.play(STAIR, times=3), lambda: sheet.jump((1, 2, 3)), lambda: sheet.wipe(), lambda: sheet.wipe(),
                     lambda: sheet.lay(BLANK), lambda: sheet.lay(drawn(STAIR)), lambda: sheet.jump((1, 2, 3)),
                     lambda: sheet.play(Program(""))]:
            call()
            states.append(state_of(sheet))
        for state in states[-2::-1]:
            self.assertIsNone(sheet.undo())
            self.assertEqual(state_of(sheet), state)
        self.assertRaises(Nothing, sheet.undo)
        self.assertEqual(state_of(sheet), (BLANK, (0, 0, 0), [], 0))
        sheet.jump((5, 5, 0))
        sheet.undo()
        self.assertRaises(Nothing, sheet.undo)
        self.assertRaises(Nothing, Sheet().undo)

    def test_two_hundred_calls_in_any_order(self):
        for seed in range(6):
            chance = random.Random(seed + 182)
            sheet, model = Sheet(), Model()
            small = [text for text in TEXTS if len(all_steps(text)) < 20]
            for _ in range(200):
                kind = chance.choice(["play", "play", "jump", "lay", "wipe", "undo", "undo"])
                if kind == "play":
                    text, times = chance.choice(small), chance.randrange(1, 5)
                    self.assertEqual(sheet.play(Program(text), times=times), model.play(text, times))
                elif kind == "jump":
                    pose = (chance.randrange(-5, 5), chance.randrange(-5, 5), chance.randrange(4))
                    self.assertEqual(sheet.jump(pose), model.jump(pose))
                elif kind == "lay":
                    picture = drawn(Program(chance.choice(small))).moved(chance.randrange(-4, 4), chance.randrange(-4, 4))
                    self.assertEqual(sheet.lay(picture), model.lay(picture))
                elif kind == "wipe" and chance.randrange(4) == 0:
                    self.assertEqual(sheet.wipe(), model.wipe())
                elif kind == "undo" and model.calls:
                    self.assertIsNone(sheet.undo())
                    model.undo()
                elif kind == "undo":
                    self.assertRaises(Nothing, sheet.undo)
                edges, pose = model.states[-1]
                self.assertEqual(state_of(sheet), (Picture(sorted(edges)), pose, model.calls, len(edges)))

    def test_sheets_share_nothing(self):
        one, two = Sheet(), Sheet()
        one.play(STAIR), one.jump((5, 5, 1))
        self.assertEqual(state_of(two), (BLANK, (0, 0, 0), [], 0))
        self.assertRaises(Nothing, two.undo)
        three = Sheet.of((0, 0, 0))
        three.wipe()
        self.assertEqual(len(one), 3)

    def test_a_log_stays_as_it_was(self):
        sheet = Sheet()
        sheet.play(STAIR)
        told = sheet.log()
        sheet.jump((1, 1, 1))
        self.assertEqual(told, [("play", STAIR, 1)])
        told.append("x")
        told[0] = None
        self.assertEqual(sheet.log(), [("play", STAIR, 1), ("jump", (1, 1, 1))])
        sheet.log().clear()
        sheet.undo()
        self.assertEqual(sheet.log(), [("play", STAIR, 1)])

    def test_pictures_of_sheets_do_not_change(self):
        sheet = Sheet()
        sheet.play(STAIR)
        picture = sheet.picture
        sheet.wipe()
        self.assertEqual(picture, drawn(STAIR))
        self.assertEqual(sheet.lay(picture), 3)


class OfTest(unittest.TestCase):
    def test_edges(self):
        sheet = Sheet.of((5, 5, 1), (0, 0, 0), (-3, 10 ** 99, 1))
        self.assertEqual(state_of(sheet), (Picture([(-3, 10 ** 99, 1), (0, 0, 0), (5, 5, 1)]), (0, 0, 0), [], 3))
        self.assertRaises(Nothing, sheet.undo)
        self.assertEqual(Sheet.of(), Sheet())
        self.assertIs(type(sheet), Sheet)
        self.assertEqual(len(Sheet.of(*[(x, 0, 0) for x in range(12)])), 12)
        self.assertEqual(len(Sheet.of(*[(x, 0, 0) for x in range(4000)])), 4000)
        check_too_large(self, 4000, lambda: Sheet.of(*[(x, 0, 0) for x in range(4001)]))
        self.assertEqual(sheet.play(STAIR), 4)
        sheet.undo()
        self.assertEqual(len(sheet), 3)

    def test_off_a_sheet(self):
        sheet = Sheet.of((5, 5, 1))
        self.assertEqual(len(sheet.of((1, 1, 1), (2, 2, 0))), 2)
        self.assertEqual(len(sheet), 1)

    def test_what_is_not_different_edges(self):
        for value in WRONG_EDGES:
            for edges in [(value,), ((0, 0, 0), value), (value, (0, 0, 0), (0, 0, 1))]:
                with self.subTest(edges=repr(edges)[:80]), self.assertRaises(InvalidPicture):
                    Sheet.of(*edges)
        for edges in [((0, 0, 0), (0, 0, 0)), ((1, 1, 0), (0, 0, 1), (1, 1, 0)), ([(0, 0, 0)],), (drawn(STAIR),)]:
            self.assertRaises(InvalidPicture, Sheet.of, *edges)


class EqualTest(unittest.TestCase):
    def test_equal_and_unequal(self):
        one, two = Sheet.of((0, 0, 0)), Sheet()
        self.assertFalse(one == two)
        self.assertTrue(one != two)
        two.lay(Picture([(0, 0, 0)]))
        self.assertTrue(one == two)
        self.assertFalse(one != two)
        two.jump((0, 0, 1))
        self.assertFalse(one == two)
        two.jump((0, 0, 0))
        self.assertTrue(one == two)
        self.assertNotEqual(one.log(), two.log())
        two.jump((1, 0, 0))
        self.assertFalse(one == two)
        self.assertEqual(Sheet(), Sheet())
        one.wipe()
        self.assertEqual(one, Sheet())

    def test_other_values(self):
        for value in WRONG_VALUES[:-1] + ["", [], (), BLANK, STAIR, (0, 0, 0), (BLANK, (0, 0, 0)), []]:
            self.assertFalse(Sheet() == value)
            self.assertTrue(Sheet() != value)


class PreviewTest(unittest.TestCase):
    def test_all_forms(self):
        for texts in [TEXTS[:6], TEXTS[20:26], TEXTS[-6:]]:
            sheet = Sheet()
            sheet.play(STAIR, times=2)
            before = state_of(sheet)
            operations = [("play", Program(text), 2) for text in texts] + FORMS
            for many in range(len(operations) + 1):
                other = Sheet()
                other.play(STAIR, times=2)
                for name, *values in operations[:many]:
                    if name == "play":
                        other.play(values[0], times=values[1])
                    else:
                        {"jump": other.jump, "lay": other.lay, "wipe": other.wipe}[name](*values)
                self.assertEqual(sheet.preview(*operations[:many]), other.picture)
                self.assertEqual(state_of(sheet), before)

    def test_no_operation(self):
        self.assertEqual(Sheet().preview(), BLANK)
        self.assertEqual(Sheet.of((0, 0, 0)).preview(), Picture([(0, 0, 0)]))

    def test_a_log_again(self):
        sheet = Sheet()
        sheet.play(STAIR, times=4), sheet.jump((9, -9, 2)), sheet.lay(drawn(Program("( f l )4"))), sheet.play(Program("f2 b"))
        self.assertEqual(Sheet().preview(*sheet.log()), sheet.picture)
        self.assertEqual(sheet.preview(("wipe",), ("jump", (0, 0, 0)), *sheet.log()), sheet.picture)

    def test_the_pose_counts(self):
        sheet = Sheet()
        sheet.jump((7, 8, 1))
        self.assertEqual(sheet.preview(("play", Program("f"), 1)), Picture([(7, 8, 1)]))
        self.assertEqual(sheet.preview(("jump", (0, 0, 0)), ("play", Program("f"), 1)), Picture([(0, 0, 0)]))
        self.assertEqual(sheet.pose, (7, 8, 1))

    def test_values_that_are_no_operations(self):
        sheet = Sheet()
        sheet.play(STAIR)
        before = state_of(sheet)
        for value in NO_OPERATIONS:
            for operations in [(value,), (*FORMS, value), (value, *FORMS), (FORMS[0], value, FORMS[1]),
                               (("jump", None), value), (value, ("play", None, 0)), (("play", LONG, 1), ("lay", 5), value)]:
                with self.subTest(operations=repr(operations)[:80]), self.assertRaises(InvalidOperation):
                    sheet.preview(*operations)
        self.assertEqual(state_of(sheet), before)

    def test_operations_that_are_not_possible(self):
        sheet = Sheet()
        sheet.play(STAIR)
        before = state_of(sheet)
        wrong = [(("play", "f", 1), InvalidProgram), (("play", None, None), InvalidProgram), (("play", STAIR, 0), InvalidTimes),
                 (("play", STAIR, True), InvalidTimes), (("play", LONG, 0), InvalidTimes), (("play", LONG, 1), TooLarge),
                 (("play", STAIR, MOST), TooLarge), (("jump", None), InvalidPose), (("jump", (0, 0, 4)), InvalidPose),
                 (("lay", [(0, 0, 0)]), InvalidPicture), (("lay", None), InvalidPicture)]
        for operation, error in wrong:
            for front in [(), (("wipe",),), tuple(FORMS), (("play", STAIR, 1), ("jump", (0, 0, 0)))]:
                for behind in [(), (("jump", "x"),), (("lay", 1),), (("play", 1, 1),)]:
                    with self.subTest(operation=repr(operation)[:80]), self.assertRaises(error):
                        sheet.preview(*front, operation, *behind)
        self.assertEqual(state_of(sheet), before)
        check_too_large(self, 1000, lambda: sheet.preview(("wipe",), ("play", LONG, 1)))
        check_too_large(self, 4000, lambda: sheet.preview(("wipe",), ("play", STAIR, 1334)))
        self.assertEqual(len(sheet.preview(("wipe",), ("play", STAIR, 1333))), 3999)
        check_too_large(self, 4000, lambda: sheet.preview(("play", Program("f1000"), 4), ("wipe",)))


class ErrorsTest(unittest.TestCase):
    def check_refused(self, sheet, error, call):
        before = state_of(sheet)
        with self.assertRaises(error):
            call()
        self.assertEqual(state_of(sheet), before)

    def test_play(self):
        sheet = Sheet()
        sheet.play(STAIR)
        for value in WRONG_PROGRAMS:
            for times in [1, 0, None]:
                self.check_refused(sheet, InvalidProgram, lambda: sheet.play(value, times=times))
        for times in WRONG_TIMES:
            for program in [STAIR, LONG, Program("")]:
                self.check_refused(sheet, InvalidTimes, lambda: sheet.play(program, times=times))
        for program in [LONG, Program(nested(12, "f", MOST)), Program("l1001")]:
            for times in [1, 5, MOST]:
                self.check_refused(sheet, TooLarge, lambda: sheet.play(program, times=times))
                check_too_large(self, 1000, lambda: sheet.play(program, times=times))
        self.assertRaises(TypeError, lambda: sheet.play(STAIR, 2))

    def test_jump_and_lay(self):
        sheet = Sheet.of((0, 0, 0))
        for value in WRONG_POSES:
            self.check_refused(sheet, InvalidPose, lambda: sheet.jump(value))
        for value in WRONG_PICTURES + [sheet]:
            self.check_refused(sheet, InvalidPicture, lambda: sheet.lay(value))
        self.check_refused(sheet, TooLarge, lambda: sheet.lay(picture_after(Program("f"), 4000).moved(1, 0)))

    def test_the_last_call_before_a_refused_one_is_undone(self):
        sheet = Sheet()
        sheet.jump((1, 1, 1))
        sheet.play(STAIR)
        for call in [lambda: sheet.play(LONG), lambda: sheet.jump(None), lambda: sheet.lay(None), lambda: sheet.preview(None)]:
            self.assertRaises(PlotError, call)
        sheet.undo()
        self.assertEqual(state_of(sheet), (BLANK, (1, 1, 1), [("jump", (1, 1, 1))], 0))

    def test_kinds_of_values(self):
        sheet = Sheet()
        for value in [sheet.play(STAIR), sheet.lay(BLANK), sheet.wipe(), len(sheet), Sheet.MOST]:
            self.assertIs(type(value), int)
        for value in [sheet.jump((0, 0, 0)), sheet.pose, sheet.log()[0], sheet.log()[-1]]:
            self.assertIs(type(value), tuple)
        for value in [sheet.picture, sheet.preview(), sheet.preview(("wipe",))]:
            self.assertIs(type(value), Picture)
        self.assertIs(type(sheet.log()), list)
        self.assertIs(type(sheet == sheet), bool)
        self.assertIs(sheet.log()[0][1], STAIR)

    def test_rounds_on_sheets_and_counts(self):
        for text in TEXTS:
            for times in [1, 4, 9]:
                self.assertEqual(Sheet().play(Program(text), times=times), count_edges(Program(text), times))


if __name__ == "__main__":
    unittest.main()
