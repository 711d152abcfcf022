"""points_of, stretches_of and first_at."""

import itertools
import unittest

from helpers import (WRONG_POINTS, WRONG_POSES, WRONG_VALUES, all_steps, check_errors, check_too_large, nested, short_texts,
                     some_texts, walk)
from plotpens.errors import InvalidPoint, InvalidPose, InvalidProgram
from plotpens.motions import motion_of
from plotpens.paths import first_at, points_of, stretches_of
from plotpens.programs import Program

MOST = 10 ** 30
TEXTS = short_texts() + some_texts(7, 200)
STARTS = [(0, 0, 0), (3, -2, 1), (-7, 5, 2), (10 ** 60, -10 ** 60, 3)]
PENS = [True, False]


def expected_points(steps, start=(0, 0, 0)):
    rows = walk(steps, start)
    return [rows[0][:2]] + [row[:2] for step, row in zip(steps, rows[1:]) if step in "fb"]


def expected_stretches(steps, start=(0, 0, 0), pen=True):
    """Each row of steps between which the pen is never up, cut out of the steps as a text."""
    rows = walk(steps, start, pen)
    down = "".join(step if row[3] else "u" for step, row in zip(steps, rows[1:]))
    found = []
    at = 0
    for row_of_steps in down.split("u"):
        points = [rows[at][:2]]
        for place, step in enumerate(row_of_steps):
            if step in "fb":
                points.append(rows[at + place + 1][:2])
        if len(points) > 1:
            found.append(tuple(points))
        at = at + len(row_of_steps) + 1
    return found


def expected_first(steps, point, rounds):
    """first_at, with so many rounds written out."""
    for index, row in enumerate(walk(steps * rounds)):
        if row[:2] == point:
            return index
    return None


class PointsTest(unittest.TestCase):
    def test_against_the_steps(self):
        for text in TEXTS:
            self.assertEqual(points_of(Program(text)), expected_points(all_steps(text)))

    def test_from_another_start(self):
        for text, start in itertools.product(TEXTS[::4], STARTS):
            self.assertEqual(points_of(Program(text), start=start), expected_points(all_steps(text), start))

    def test_without_moves(self):
        for text in ["", "l", "u", "u d l2 r"]:
            self.assertEqual(points_of(Program(text)), [(0, 0)])
            self.assertEqual(points_of(Program(text), start=(7, -8, 3)), [(7, -8)])

    def test_moves_with_the_pen_up_count(self):
        self.assertEqual(points_of(Program("u f d b l b")), [(0, 0), (1, 0), (0, 0), (0, -1)])

    def test_the_list_is_new(self):
        program = Program("f l f")
        points_of(program).append((9, 9))
        self.assertEqual(points_of(program), [(0, 0), (1, 0), (1, 1)])


class StretchesTest(unittest.TestCase):
    def test_against_the_steps(self):
        for text, pen in itertools.product(TEXTS, PENS):
            self.assertEqual(stretches_of(Program(text), pen=pen), expected_stretches(all_steps(text), pen=pen))

    def test_all_short_rows_of_steps(self):
        for many in range(6):
            for letters in itertools.product("fblud", repeat=many):
                for pen in PENS:
                    found = stretches_of(Program(" ".join(letters)), pen=pen)
                    self.assertEqual(found, expected_stretches("".join(letters), pen=pen))

    def test_from_another_start(self):
        for text, start, pen in itertools.product(TEXTS[::4], STARTS, PENS):
            found = stretches_of(Program(text), start=start, pen=pen)
            self.assertEqual(found, expected_stretches(all_steps(text), start, pen))

    def test_some(self):
        cases = [("", []), ("l u d", []), ("u f2", []), ("f l f", [((0, 0), (1, 0), (1, 1))]),
                 ("f u d f", [((0, 0), (1, 0)), ((1, 0), (2, 0))]), ("f d2 f", [((0, 0), (1, 0), (2, 0))]),
                 ("u2 f u d2 b u2 f d", [((1, 0), (0, 0))]), ("f b f", [((0, 0), (1, 0), (0, 0), (1, 0))]),
                 ("f u l f u r f d l f", [((0, 0), (1, 0)), ((2, 1), (2, 2))])]
        for text, expected in cases:
            self.assertEqual(stretches_of(Program(text)), expected)

    def test_pen_up_at_first(self):
        self.assertEqual(stretches_of(Program("f l f"), pen=False), [])
        self.assertEqual(stretches_of(Program("f d f"), pen=False), [((1, 0), (2, 0))])
        self.assertEqual(stretches_of(Program("f u f d f"), pen=False), [((2, 0), (3, 0))])

    def test_the_list_is_new(self):
        program = Program("f u f d f")
        stretches_of(program).clear()
        self.assertEqual(stretches_of(program), [((0, 0), (1, 0)), ((2, 0), (3, 0))])
        for stretch in stretches_of(program):
            self.assertIs(type(stretch), tuple)


class FirstTest(unittest.TestCase):
    def test_against_many_rounds(self):
        box = list(itertools.product(range(-4, 5), repeat=2))
        for text in short_texts()[::9] + some_texts(8, 40, 8):
            steps = all_steps(text)
            if len(steps) > 40:
                continue
            program = Program(text)
            # A point of the box is passed, if at all, before the rounds have drifted out of it.
            first = {}
            for index, row in enumerate(walk(steps * 60)):
                first.setdefault(row[:2], index)
            for point in box:
                self.assertEqual(first_at(program, point), first.get(point), (text, point))

    def test_rounds_that_close(self):
        cases = [("( f l )4", (1, 1), 3), ("( f l )4", (2, 0), None), ("f l", (0, 1), 5), ("f l", (1, 1), 3),
                 ("f2 l2", (1, 0), 1), ("f2 l b r3", (2, -1), 4), ("f r", (1, -1), 3), ("f r", (0, -1), 5),
                 ("f2 l2 f3 l", (-1, 3), None), ("l", (0, 0), 0), ("l", (1, 0), None), ("f2 l f l", (1, 0), 1)]
        for text, point, steps in cases:
            self.assertEqual(first_at(Program(text), point), steps)
            self.assertEqual(expected_first(all_steps(text), point, 5), steps)

    def test_rounds_that_close_after_one_two_and_four(self):
        for text, order in [("( f2 r )4", 1), ("f3 l2 b", 2), ("f2 l f", 4), ("b r f3", 4)]:
            program = Program(text)
            self.assertEqual(motion_of(program).order(), order)
            for point in itertools.product(range(-6, 7), repeat=2):
                self.assertEqual(first_at(program, point), expected_first(all_steps(text), point, order))

    def test_the_first_point(self):
        for text in ["", "f", "u f", "f l", "( f l )4", "l", "b2 l"]:
            self.assertEqual(first_at(Program(text), (0, 0)), 0)

    def test_the_empty_program(self):
        for point in [(1, 0), (0, -1), (10 ** 99, 10 ** 99)]:
            self.assertIsNone(first_at(Program(""), point))

    def test_drift(self):
        stair = Program("f l f2 r")
        self.assertEqual([first_at(stair, point) for point in [(1, 0), (1, 2), (2, 2), (1, 3), (0, 1), (-1, -2)]],
                         [1, 4, 6, None, None, None])
        back = Program("b2 f")
        self.assertEqual([first_at(back, point) for point in [(-1, 0), (-2, 0), (-3, 0), (1, 0)]], [1, 2, 5, None])

    def test_far_rounds(self):
        stair = Program("f l f2 r")
        for rounds in [10 ** 12, MOST - 1, MOST, MOST + 3, 10 ** 99 // 3]:
            cases = [((rounds, 2 * rounds), 5 * rounds - 1), ((rounds + 1, 2 * rounds), 5 * rounds + 1),
                     ((rounds + 1, 2 * rounds + 1), 5 * rounds + 3), ((rounds, 2 * rounds + 1), None),
                     ((-rounds, -2 * rounds), None), ((2 * rounds, 4 * rounds), 10 * rounds - 1)]
            for point, steps in cases:
                self.assertEqual(first_at(stair, point), steps)

    def test_some_rounds_later_by_another_step(self):
        program = Program("f5 l f r b4")
        self.assertEqual(motion_of(program).shift, (1, 1))
        for rounds in [1, 2, MOST]:
            self.assertEqual(first_at(program, (rounds + 5, rounds)), 12 * rounds + 5)
            self.assertEqual(first_at(program, (rounds + 2, rounds)), 12 * rounds - 2)
        self.assertEqual([first_at(program, point) for point in [(5, 0), (2, 0)]], [5, 2])
        self.assertEqual(first_at(program, (MOST, MOST)), 12 * MOST)
        self.assertIsNone(first_at(program, (MOST + 6, MOST)))

    def test_a_step_of_a_later_round_may_come_first(self):
        program = Program("l f9 r f3 b r f9 l")
        self.assertEqual(motion_of(program).shift, (2, 0))
        for point in itertools.product(range(-1, 14), range(-1, 10)):
            self.assertEqual(first_at(program, point), expected_first(all_steps(program.text), point, 12))

    def test_shifts_of_several_at_a_time(self):
        program = Program("f6 l f4")
        closed = Program("f6 l f4 r")
        self.assertEqual(first_at(closed, (6 * MOST + 6, 4 * MOST + 1)), 12 * MOST + 8)
        self.assertEqual(first_at(closed, (3 * MOST, 2 * MOST)), 12 * (MOST // 2) - 1)
        self.assertIsNone(first_at(closed, (3 * MOST + 3, 2 * MOST + 2)))
        self.assertEqual(first_at(program, (6, 4)), 11)

    def test_the_pen_does_not_count(self):
        self.assertEqual(first_at(Program("u f d f"), (MOST, 0)), 4 * (MOST // 2))
        self.assertEqual(first_at(Program("u f d f"), (MOST + 1, 0)), 4 * (MOST // 2) + 2)


class LimitsTest(unittest.TestCase):
    def test_a_thousand_steps(self):
        program = Program("f1000")
        self.assertEqual(points_of(program), [(x, 0) for x in range(1001)])
        self.assertEqual(stretches_of(program), [tuple((x, 0) for x in range(1001))])
        self.assertEqual(first_at(program, (1000 * MOST + 999, 0)), 1000 * MOST + 999)
        self.assertEqual(len(points_of(Program("( f l f r u )200"))), 401)
        self.assertEqual(first_at(Program("( f l )499 f l"), (5, 0)), None)

    def test_more_steps(self):
        for text in ["f1001", "( f l )500 u", nested(12, "f", MOST), f"u{MOST}"]:
            program = Program(text)
            check_too_large(self, 1000, lambda: points_of(program))
            check_too_large(self, 1000, lambda: stretches_of(program, start=(1, 1, 1), pen=False))
            check_too_large(self, 1000, lambda: first_at(program, (0, 0)))

    def test_errors_of_parameters_come_first(self):
        programs = WRONG_VALUES + ["f", motion_of(Program("f"))]
        for good in [Program("f l"), Program("f1000")]:
            check_errors(self, lambda program, start: points_of(program, start=start),
                         [(good, programs, InvalidProgram), ((1, 2, 3), WRONG_POSES, InvalidPose)])
            check_errors(self, lambda program, start: stretches_of(program, start=start, pen=False),
                         [(good, programs, InvalidProgram), ((1, 2, 3), WRONG_POSES, InvalidPose)])
            check_errors(self, first_at, [(good, programs, InvalidProgram), ((1, 0), WRONG_POINTS, InvalidPoint)])

    def test_errors_of_parameters_come_before_too_large(self):
        long = Program("f1001")
        for wrong in WRONG_POSES:
            with self.assertRaises(InvalidPose):
                points_of(long, start=wrong)
            with self.assertRaises(InvalidPose):
                stretches_of(long, start=wrong)
        for wrong in WRONG_POINTS:
            with self.assertRaises(InvalidPoint):
                first_at(long, wrong)


if __name__ == "__main__":
    unittest.main()
