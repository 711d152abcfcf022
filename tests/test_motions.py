"""Motion, motion_of, pose_after and pen_after."""

import itertools
import unittest

from helpers import STEPS, WRONG_POSES, WRONG_VALUES, Whole, all_steps, check_errors, nested, short_texts, some_texts, walk
from plotpens.errors import InvalidIndex, InvalidMotion, InvalidPose, InvalidProgram, InvalidTimes
from plotpens.motions import Motion, motion_of, pen_after, pose_after
from plotpens.programs import Program, step_at

MOST = 10 ** 30
FAR = 10 ** 60
TEXTS = short_texts() + some_texts(5, 150)
STARTS = [(0, 0, 0), (3, -2, 1), (-7, 5, 2), (FAR, -FAR, 3)]
SHIFTS = [(0, 0), (1, 0), (0, -1), (2, 3), (-5, 4), (FAR, 0), (0, FAR), (-FAR, FAR), (FAR + 1, -FAR - 7)]
MOTIONS = [(turn, dx, dy) for turn in range(4) for dx, dy in SHIFTS]
POSES = [(x, y, heading) for x, y in [(0, 0), (4, -9), (FAR, -FAR - 3)] for heading in range(4)]
IDENTITY = Motion(0, 0, 0)


def values_of(motion):
    return (motion.turn, *motion.shift)


def moved_pose(values, pose):
    """Where a motion leads, by complex numbers with whole parts, written as tuples."""
    turn, dx, dy = values
    x, y, heading = pose
    ways = {0: (dx, dy), 1: (-dy, dx), 2: (-dx, -dy), 3: (dy, -dx)}
    return (x + ways[heading][0], y + ways[heading][1], (turn + heading) % 4)


def values_of_pose(pose):
    """The values of the motion from (0, 0, 0) to a pose."""
    return (pose[2], pose[0], pose[1])


class MotionTest(unittest.TestCase):
    def test_properties(self):
        for turn, dx, dy in MOTIONS:
            motion = Motion(turn, dx, dy)
            self.assertEqual((motion.turn, motion.shift), (turn, (dx, dy)))

    def test_properties_cannot_be_assigned(self):
        motion = Motion(1, 2, 3)
        for name in ["turn", "shift"]:
            with self.assertRaises(AttributeError):
                setattr(motion, name, 0)
        self.assertEqual(values_of(motion), (1, 2, 3))

    def test_wrong_values(self):
        whole = [None, True, False, "0", b"0", [0], (0,), {0: 0}, Motion(0, 0, 0), object(), len]
        for wrong in whole + [-1, 4, 10 ** 99, -10 ** 99]:
            with self.subTest(wrong=repr(wrong)), self.assertRaises(InvalidMotion):
                Motion(wrong, 0, 0)
        for wrong in whole:
            for values in [(0, wrong, 0), (3, 0, wrong), (1, wrong, wrong), (4, wrong, 0)]:
                with self.subTest(values=repr(values)), self.assertRaises(InvalidMotion):
                    Motion(*values)

    def test_integers_of_a_kind_of_their_own(self):
        self.assertEqual(Motion(Whole(1), Whole(2), Whole(3)), Motion(1, 2, 3))

    def test_call(self):
        for values, pose in itertools.product(MOTIONS, POSES):
            self.assertEqual(Motion(*values)(pose), moved_pose(values, pose))

    def test_call_with_what_is_no_pose(self):
        for motion in [IDENTITY, Motion(1, 2, 3)]:
            for wrong in WRONG_POSES + [motion]:
                with self.subTest(wrong=repr(wrong)[:80]), self.assertRaises(InvalidPose):
                    motion(wrong)

    def test_call_leaves_all_as_it_was(self):
        motion, pose = Motion(1, 2, 3), (5, 6, 3)
        found = [motion(pose), motion(pose)]
        self.assertEqual(found, [(8, 4, 0), (8, 4, 0)])
        self.assertEqual((values_of(motion), pose), ((1, 2, 3), (5, 6, 3)))


class OperatorsTest(unittest.TestCase):
    def test_add(self):
        for one, two in itertools.product(MOTIONS, MOTIONS):
            both = Motion(*one) + Motion(*two)
            self.assertEqual(values_of(both), values_of_pose(moved_pose(two, moved_pose(one, (0, 0, 0)))))
        for one, two, pose in itertools.product(MOTIONS[::5], MOTIONS[::4], POSES):
            self.assertEqual((Motion(*one) + Motion(*two))(pose), moved_pose(two, moved_pose(one, pose)))

    def test_add_makes_a_new_motion(self):
        one, two = Motion(1, 2, 3), Motion(2, 5, 7)
        one + two
        one * 5
        -one
        self.assertEqual([values_of(one), values_of(two)], [(1, 2, 3), (2, 5, 7)])

    def test_add_of_other_values(self):
        for value in WRONG_VALUES + [(0, 0, 0), "f", Program("f")]:
            with self.subTest(value=repr(value)), self.assertRaises(InvalidMotion):
                Motion(1, 2, 3) + value

    def test_minus_leads_back(self):
        for values in MOTIONS:
            motion = Motion(*values)
            self.assertEqual(values_of(motion + -motion), (0, 0, 0))
            self.assertEqual(values_of(-motion + motion), (0, 0, 0))
            self.assertEqual(-(-motion), motion)
            for pose in POSES:
                self.assertEqual((-motion)(motion(pose)), pose)

    def test_minus_of_some(self):
        cases = [((0, 2, 3), (0, -2, -3)), ((1, 1, 0), (3, 0, 1)), ((2, 1, 5), (2, 1, 5)), ((3, 2, 0), (1, 0, -2))]
        for values, back in cases:
            self.assertEqual(values_of(-Motion(*values)), back)

    def test_times_one_by_one(self):
        for values in MOTIONS:
            motion = Motion(*values)
            for sign, once in [(1, motion), (-1, -motion)]:
                expected = IDENTITY
                for times in range(13):
                    self.assertEqual(values_of(motion * (sign * times)), values_of(expected))
                    expected = expected + once

    def test_many_times(self):
        for values in MOTIONS:
            motion = Motion(*values)
            for times in [12345, 10 ** 18 + 1, MOST - 3, MOST - 2, MOST - 1, MOST]:
                rest = {0: motion, 1: motion * (times % 4), 2: motion * (times % 2), 3: motion * (times % 4)}[values[0]]
                expected = (0, values[1] * times, values[2] * times) if values[0] == 0 else values_of(rest)
                self.assertEqual(values_of(motion * times), expected)
                self.assertEqual(motion * -times, -(motion * times))
                self.assertEqual(motion * times + motion * -times, IDENTITY)

    def test_times_of_some(self):
        self.assertEqual(values_of(Motion(0, 1, -2) * MOST), (0, MOST, -2 * MOST))
        self.assertEqual(values_of(Motion(0, 1, -2) * -MOST), (0, -MOST, 2 * MOST))
        self.assertEqual(values_of(Motion(1, 1, 0) * (MOST - 1)), (3, 0, 1))
        self.assertEqual(values_of(Motion(2, 4, 5) * (1 - MOST)), (2, 4, 5))

    def test_numbers_that_are_no_times(self):
        wrong = [None, True, False, MOST + 1, -MOST - 1, 10 ** 99, -10 ** 99, "2", b"2", [2], (2,), {2: 2}, Motion(0, 0, 0),
                 Program("f")]
        for motion in [IDENTITY, Motion(0, 1, 0), Motion(1, 2, 3), Motion(2, 0, 0)]:
            for times in wrong:
                with self.subTest(times=repr(times)), self.assertRaises(InvalidTimes):
                    motion * times

    def test_order(self):
        for turn, dx, dy in MOTIONS:
            expected = {0: None, 1: 4, 2: 2, 3: 4}[turn]
            if (turn, dx, dy) == (0, 0, 0):
                expected = 1
            self.assertEqual(Motion(turn, dx, dy).order(), expected)

    def test_order_is_the_least_number(self):
        for values in MOTIONS:
            motion = Motion(*values)
            back = [times for times in range(1, 9) if motion * times == IDENTITY]
            self.assertEqual(motion.order(), back[0] if back else None)

    def test_equal(self):
        for one, two in itertools.product(MOTIONS, MOTIONS):
            self.assertIs(Motion(*one) == Motion(*two), one == two)
            self.assertIs(Motion(*one) != Motion(*two), one != two)

    def test_not_equal_to_other_values(self):
        for value in WRONG_VALUES[:-1] + [(0, 0, 0), [0, 0, 0], (0, (0, 0)), "", Program("")]:
            self.assertIs(IDENTITY == value, False)
            self.assertIs(IDENTITY != value, True)


class ShortTest(unittest.TestCase):
    def test_motion_of(self):
        for text in TEXTS:
            self.assertEqual(values_of(motion_of(Program(text))), values_of_pose(walk(all_steps(text))[-1][:3]))

    def test_pose_after(self):
        for text in TEXTS:
            program = Program(text)
            for index, row in enumerate(walk(all_steps(text))):
                self.assertEqual(pose_after(program, index), row[:3])

    def test_pose_after_from_another_start(self):
        for text, start in itertools.product(TEXTS[::5], STARTS):
            program = Program(text)
            for index, row in enumerate(walk(all_steps(text), start)):
                self.assertEqual(pose_after(program, index, start=start), row[:3])

    def test_pen_after(self):
        for text in TEXTS:
            steps = all_steps(text)
            self.assertIs(pen_after(Program(text)), walk(steps)[-1][3])
            for pen in [True, False]:
                self.assertIs(pen_after(Program(text), pen=pen), walk(steps, pen=pen)[-1][3])

    def test_pen_after_some(self):
        cases = [("", True, True), ("", False, False), ("f l", False, False), ("u", True, False), ("d", False, True),
                 ("u d", False, True), ("d u", True, False), ("( u f d )3 f", False, True), ("d ( f ( l )2 )2", False, True),
                 ("u ( f )2", True, False), ("( d u )2 ( d )2 ( f )2", False, True)]
        for text, pen, expected in cases:
            self.assertIs(pen_after(Program(text), pen=pen), expected)

    def test_the_motion_from_any_pose_is_what_the_program_does(self):
        for text, start in itertools.product(TEXTS[::7], STARTS):
            program = Program(text)
            self.assertEqual(motion_of(program)(start), pose_after(program, program.length, start=start))

    def test_the_empty_program(self):
        empty = Program("")
        self.assertEqual(motion_of(empty), IDENTITY)
        self.assertEqual(pose_after(empty, 0, start=(4, 5, 3)), (4, 5, 3))


class GreatTest(unittest.TestCase):
    def setUp(self):
        turning = nested(12, f"f{MOST} l b2", MOST - 1)
        mixed = f"u f2 ( {nested(5, 'f3 l f', MOST - 2)} r )7 b d " + nested(9, "b l f2 r", MOST) + " r f"
        self.programs = [Program(text) for text in [nested(12, "f l f2 r", MOST), turning, mixed]]
        for program in self.programs:
            self.assertGreater(program.length, 10 ** 100)

    def test_all_of_it(self):
        self.assertEqual(values_of(motion_of(self.programs[0])), (0, MOST ** 12, 2 * MOST ** 12))
        self.assertEqual(values_of(motion_of(Program(f"f{MOST} r b{MOST}"))), (3, MOST, MOST))
        for program in self.programs:
            for start in STARTS:
                self.assertEqual(pose_after(program, program.length, start=start), motion_of(program)(start))
                self.assertEqual(pose_after(program, 0, start=start), start)

    def test_known_poses(self):
        program = self.programs[0]
        for index in [7, 10 ** 100, 3 * 10 ** 359 + 4, program.length - 2]:
            x, y, heading = walk("flffr"[:index % 5])[-1][:3]
            self.assertEqual(pose_after(program, index), (x + index // 5, y + 2 * (index // 5), heading))

    def test_from_one_step_to_the_next(self):
        for program in self.programs:
            length = program.length
            for index in [0, 1, 5, MOST - 1, MOST, 10 ** 100 + 17, length // 3, length // 2 + 1, length - 2, length - 1]:
                start = pose_after(program, index)
                expected = walk(step_at(program, index), start)[-1][:3]
                self.assertEqual(pose_after(program, index + 1), expected)

    def test_back_again(self):
        program = self.programs[1]
        self.assertEqual(motion_of(program + ~program), IDENTITY)
        self.assertEqual(motion_of(~program), -motion_of(program))

    def test_just_beyond(self):
        for program in self.programs:
            for index in [-1, program.length + 1, 10 ** 399]:
                with self.assertRaises(InvalidIndex):
                    pose_after(program, index)

    def test_pen(self):
        self.assertEqual([pen_after(program, pen=False) for program in self.programs], [False, False, True])
        self.assertFalse(pen_after(self.programs[2] * MOST + Program(nested(12, "f u", MOST))))

    def test_the_most_words(self):
        program = Program(" ".join(["f2", "l", "b", "u"] * 250))
        self.assertEqual(values_of(motion_of(program)), values_of_pose(walk("fflbu" * 250)[-1][:3]))
        self.assertFalse(pen_after(program))


class ErrorsTest(unittest.TestCase):
    def test_motion_of_and_pen_after(self):
        wrong = WRONG_VALUES + ["f", Motion(0, 0, 0)]
        check_errors(self, motion_of, [(Program("f"), wrong, InvalidProgram)])
        check_errors(self, pen_after, [(Program("f"), wrong, InvalidProgram)])

    def test_pose_after(self):
        indexes = [-1, 4, None, True, False, "0", b"0", [0], (0,), {0: 0}, 10 ** 399, -10 ** 399, Motion(0, 0, 0)]
        check_errors(self, lambda program, index, start: pose_after(program, index, start=start),
                     [(Program("f l f"), WRONG_VALUES + ["f"], InvalidProgram), (3, indexes, InvalidIndex),
                      ((1, 2, 3), WRONG_POSES, InvalidPose)])

    def test_index_of_the_empty_program(self):
        for index in [-1, 1]:
            with self.assertRaises(InvalidIndex):
                pose_after(Program(""), index)

    def test_programs_stay_as_they_were(self):
        program = Program("( f u l )3")
        motion_of(program), pose_after(program, 4), pen_after(program)
        self.assertEqual((program.text, program.length, "".join(step for step in STEPS if step in program)),
                         ("( f u l )3", 9, "flu"))


if __name__ == "__main__":
    unittest.main()
