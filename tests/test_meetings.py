"""meeting."""

import random
import unittest

from helpers import WRONG_POSES, WRONG_VALUES, Whole, all_steps, check_errors, check_too_large, some_texts, walk
from plotpens.errors import InvalidPose, InvalidProgram, NoSteps
from plotpens.meetings import meeting
from plotpens.motions import motion_of, pose_after
from plotpens.pictures import drawn
from plotpens.programs import Program

FAR = 10 ** 30
ORIGIN = (0, 0, 0)
TEXTS = [text for text in some_texts(171, 90, 6) if text and len(all_steps(text)) <= 20]
POSES = [(x, y, heading) for x in range(-3, 4) for y in range(-2, 3) for heading in range(4)]
WRONG_PROGRAMS = WRONG_VALUES + ["f", "", (), [Program("f")], drawn(Program("f"))]
SIXTY = Program("( f l )30")


def points_for(text, start, many):
    """The points of a plotter after 0, 1, 2 .. steps."""
    steps = all_steps(text)
    rows = walk((steps * (many // len(steps) + 1))[:many], start)
    return [(x, y) for x, y, _, _ in rows]


def brute_meeting(text, start, other, other_start, many):
    pairs = zip(points_for(text, start, many), points_for(other, other_start, many))
    return next(((steps, point) for steps, (point, other_point) in enumerate(pairs) if point == other_point), None)


def point_later(program, start, steps):
    """The point of a plotter after any number of steps."""
    x, y, _ = pose_after(program * FAR, steps, start=start)
    return (x, y)


class NearTest(unittest.TestCase):
    def check(self, text, start, other, other_start, many=400):
        expected = brute_meeting(text, start, other, other_start, many)
        found = meeting(Program(text), start, Program(other), other_start)
        if expected is not None or found is not None and found[0] <= many:
            self.assertEqual(found, expected, (text, start, other, other_start))
        return found

    def test_against_step_by_step(self):
        chance = random.Random(172)
        met = 0
        for _ in range(700):
            text, other = chance.choice(TEXTS), chance.choice(TEXTS)
            met += self.check(text, chance.choice(POSES), other, chance.choice(POSES)) is not None
        self.assertGreater(met, 80)

    def test_far_enough_to_come_again_often(self):
        chance = random.Random(173)
        for _ in range(60):
            text, other = chance.choice(TEXTS), chance.choice(TEXTS)
            x, y, heading = chance.choice(POSES)
            self.check(text, ORIGIN, other, (x * 20, y * 20, heading), 3000)

    def test_the_same_program_from_all_places_nearby(self):
        for text in ["f", "f l", "f l f2 r", "f2 b", "f r f l", "u f d f"]:
            for pose in POSES:
                self.check(text, ORIGIN, text, pose)

    def test_one_stands_still(self):
        for text in TEXTS[:12] + ["f", "f l f2 r", "( f l )4"]:
            for still in ["l", "u", "d u", "l r2", "r30"]:
                for pose in POSES[::9]:
                    self.check(text, ORIGIN, still, pose)
                    self.check(still, ORIGIN, text, pose)

    def test_at_once(self):
        for text, other in zip(TEXTS, TEXTS[1:]):
            for heading in range(4):
                self.assertEqual(meeting(Program(text), (3, -FAR, 1), Program(other), (3, -FAR, heading)), (0, (3, -FAR)))
            self.assertEqual(meeting(Program(text), ORIGIN, Program(text), ORIGIN), (0, (0, 0)))

    def test_some(self):
        go, back = Program("f"), Program("b")
        self.assertEqual(meeting(go, ORIGIN, back, (10, 0, 0)), (5, (5, 0)))
        self.assertEqual(meeting(go, ORIGIN, back, (9, 0, 0)), None)
        self.assertEqual(meeting(go, ORIGIN, go, (1, 1, 3)), (1, (1, 0)))
        self.assertEqual(meeting(go, ORIGIN, go, (1, 0, 0)), None)
        self.assertEqual(meeting(go, ORIGIN, Program("l"), (7, 0, 0)), (7, (7, 0)))
        self.assertEqual(meeting(go, ORIGIN, Program("l"), (-1, 0, 0)), None)
        self.assertEqual(meeting(Program("u f"), ORIGIN, Program("l"), (3, 0, 2)), (6, (3, 0)))
        self.assertEqual(meeting(Program("f4 b4"), ORIGIN, Program("u"), (4, 0, 0)), (4, (4, 0)))
        self.assertEqual(meeting(Program("f l"), ORIGIN, Program("f r"), (0, 1, 0)), None)


class FarTest(unittest.TestCase):
    def test_far_ahead(self):
        for distance in [FAR, FAR + 1, 10 ** 60, 10 ** 99 + 7]:
            self.assertEqual(meeting(Program("f"), ORIGIN, Program("l"), (distance, 0, 0)), (distance, (distance, 0)))
            self.assertEqual(meeting(Program("f2 b"), ORIGIN, Program("l"), (distance, 0, 0)),
                             (3 * distance - 4, (distance, 0)))
            self.assertEqual(meeting(Program("f59 b"), (-distance, 5, 0), Program("u"), (0, 5, 3))[1], (0, 5))
            half = distance // 2
            expected = None if distance % 2 else (half, (half, 0))
            self.assertEqual(meeting(Program("f"), ORIGIN, Program("f"), (distance, 0, 2)), expected)
            self.assertEqual(meeting(Program("f"), ORIGIN, Program("f2 b"), (-distance, 0, 0)), None)
            self.assertEqual(meeting(Program("f"), ORIGIN, Program("f2"), (-distance, 0, 0)), None)
            # Each round of the first one goes on by 2, each of the second one, of three steps, by 1.
            steps, point = meeting(Program("f l r"), (0, 0, 0), Program("f r l"), (2 * distance, 0, 2))
            self.assertEqual((steps, point), (3 * distance - 2, (distance, 0)))

    def test_slow_ones(self):
        slow, slower = Program("f30 b29 l"), Program("f2 b")
        self.assertIsNotNone(meeting(Program("f30 b29"), ORIGIN, Program("l"), (10 ** 99, 0, 0)))
        steps, point = meeting(Program("f30 b29"), ORIGIN, Program("l"), (10 ** 99, 0, 0))
        self.assertEqual((steps, point), (59 * (10 ** 99 - 30) + 30, (10 ** 99, 0)))
        self.assertIsNone(meeting(slow, ORIGIN, Program("l"), (10 ** 99, 0, 0)))
        steps, point = meeting(slower, ORIGIN, Program("f"), (FAR, 0, 2))
        self.assertEqual(point_later(slower, ORIGIN, steps), point)
        self.assertEqual(point[0] + steps, FAR)

    def test_they_are_there_and_not_before(self):
        chance = random.Random(174)
        met = 0
        for _ in range(400):
            text, other = chance.choice(TEXTS), chance.choice(TEXTS)
            program, second = Program(text), Program(other)
            later = chance.randrange(10 ** 28, 10 ** 29)
            one = pose_after(program * FAR, later)
            two = pose_after(second * FAR, later)
            # The second plotter is moved so that both are at one point after so many steps, at the latest.
            start = (one[0] - two[0], one[1] - two[1], 0)
            steps, point = meeting(program, ORIGIN, second, start)
            self.assertLessEqual(steps, later)
            self.assertEqual(point_later(program, ORIGIN, steps), point)
            self.assertEqual(point_later(second, start, steps), point)
            for before in range(max(0, steps - 40), steps):
                self.assertNotEqual(point_later(program, ORIGIN, before), point_later(second, start, before))
            met += steps > 10 ** 27
        self.assertGreater(met, 20)

    def test_exchanged(self):
        chance = random.Random(175)
        for _ in range(200):
            program, other = Program(chance.choice(TEXTS)), Program(chance.choice(TEXTS))
            start, pose = chance.choice(POSES), chance.choice(POSES)
            self.assertEqual(meeting(program, start, other, pose), meeting(other, pose, program, start))

    def test_turned_and_moved(self):
        chance = random.Random(176)
        for _ in range(200):
            program, other = Program(chance.choice(TEXTS)), Program(chance.choice(TEXTS))
            start, (x, y, heading) = ORIGIN, chance.choice(POSES)
            found = meeting(program, start, other, (x, y, heading))
            turned = meeting(program, (5, FAR, 1), other, (5 - y, FAR + x, (heading + 1) % 4))
            if found is None:
                self.assertIsNone(turned)
            else:
                steps, (at, up) = found
                self.assertEqual(turned, (steps, (5 - up, FAR + at)))

    def test_never(self):
        for text, pose in [("f", (1, 0, 0)), ("f", (0, 1, 0)), ("f", (10, 1, 2)), ("f l f2 r", (0, 1, 0)), ("( f l )4", (5, 5, 0)),
                           ("f2 b", (1, 0, 0)), ("f l", (FAR, 0, 0)), ("l", (0, 1, 0))]:
            self.assertIsNone(meeting(Program(text), ORIGIN, Program(text), pose), (text, pose))
        self.assertIsNone(meeting(Program("f"), ORIGIN, Program("l"), (FAR, 1, 0)))
        self.assertIsNone(meeting(Program("f l f2 r"), ORIGIN, Program("u"), (FAR, FAR, 0)))

    def test_lengths_without_a_common_factor(self):
        for one, two in [("( f l f r )14 f2 l", "( f r )29 f l"), ("f58 l", "b57 r"), ("f50 l8 u", "f56 r d")]:
            for pose in [(4, 0, 0), (0, 4, 1), (7, -3, 2), (57, 1, 3)]:
                expected = brute_meeting(one, ORIGIN, two, pose, 15000)
                found = meeting(Program(one), ORIGIN, Program(two), pose)
                if motion_of(Program(one)).order() and motion_of(Program(two)).order():
                    self.assertEqual(found, expected)
                elif expected is not None:
                    self.assertEqual(found, expected)


class ErrorsTest(unittest.TestCase):
    def test_in_order(self):
        good = Program("f")
        check_errors(self, meeting, [(good, WRONG_PROGRAMS, InvalidProgram), (ORIGIN, WRONG_POSES, InvalidPose),
                                     (good, WRONG_PROGRAMS, InvalidProgram), ((3, 0, 2), WRONG_POSES, InvalidPose)])

    def test_no_steps(self):
        empty, good, long = Program(""), Program("f"), Program("f61")
        for program, other in [(empty, good), (good, empty), (empty, empty), (empty, long), (long, empty)]:
            self.assertRaises(NoSteps, meeting, program, ORIGIN, other, ORIGIN)
            self.assertRaises(InvalidPose, meeting, program, None, other, ORIGIN)
            self.assertRaises(InvalidPose, meeting, program, ORIGIN, other, (0, 0))
        self.assertRaises(InvalidProgram, meeting, empty, ORIGIN, None, None)

    def test_too_many_steps(self):
        for text in ["f61", "( f l )30 u", "f1001", f"f{FAR}", "l61"]:
            check_too_large(self, 60, lambda: meeting(Program(text), ORIGIN, Program("f"), ORIGIN))
            check_too_large(self, 60, lambda: meeting(Program("f"), ORIGIN, Program(text), ORIGIN))
            self.assertRaises(InvalidPose, meeting, Program(text), ORIGIN, Program("f"), "pose")

    def test_sixty_steps(self):
        self.assertEqual(SIXTY.length, 60)
        self.assertEqual(meeting(SIXTY, ORIGIN, SIXTY, ORIGIN), (0, (0, 0)))
        self.assertEqual(meeting(Program("f60"), ORIGIN, Program("f60"), (FAR, 0, 2)), (FAR // 2, (FAR // 2, 0)))
        self.assertEqual(meeting(SIXTY, ORIGIN, Program("( l r )30"), (1, 1, 0)), (3, (1, 1)))

    def test_deep_programs(self):
        deep = Program("( ( ( ( ( f )2 )2 )2 )2 )2")
        self.assertEqual(meeting(deep, ORIGIN, Program("l"), (1000, 0, 0)), (1000, (1000, 0)))

    def test_kinds_of_values(self):
        found = meeting(Program("f"), (Whole(0), 0, 0), Program("b"), (4, 0, 0))
        self.assertEqual(found, (2, (2, 0)))
        self.assertEqual([type(found), type(found[0]), type(found[1])], [tuple, int, tuple])


if __name__ == "__main__":
    unittest.main()
