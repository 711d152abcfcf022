"""What holds of a whole program from its source to its picture: one behind the other, mirrored, backwards, several times,
and from another pose."""

import itertools
import unittest

from helpers import all_steps, edges_passed, odd_ones, some_texts
from plotpens.motions import Motion, motion_of, pen_after, pose_after
from plotpens.paths import first_at, points_of, stretches_of
from plotpens.pictures import Picture, drawn, edge_between, passes_of
from plotpens.programs import Program
from plotpens.sources import read_source, routine

TEXTS = some_texts(21, 60, 9)
WITHOUT_PEN = [text for text in some_texts(22, 300, 9) if "u" not in text and "d" not in text]
POSES = [(0, 0, 0), (4, -3, 1), (-2, 6, 2), (10 ** 40, -10 ** 50, 3)]
PENS = [True, False]


def mirrored(picture):
    """The picture with y exchanged for -y."""
    edges = [(x, -y, 0) if side == 0 else (x, -y - 1, 1) for x, y, side in picture.edges]
    return Picture(edges)


def placed(picture, pose):
    """The picture drawn from (0, 0, 0), as it is drawn from another pose."""
    x, y, heading = pose
    return picture.turned(heading).moved(x, y)


class SequenceTest(unittest.TestCase):
    def test_two_programs_one_behind_the_other(self):
        for one, two in itertools.product(TEXTS[::4], TEXTS[1::4]):
            first, second = Program(one), Program(two)
            middle, pen = pose_after(first, first.length), pen_after(first)
            self.assertEqual(drawn(first + second), drawn(first) ^ drawn(second, start=middle, pen=pen))
            self.assertEqual(motion_of(first + second), motion_of(first) + motion_of(second))
            self.assertEqual(pen_after(first + second), pen_after(second, pen=pen))
            self.assertEqual(points_of(first + second), points_of(first) + points_of(second, start=middle)[1:])
            passes = dict(passes_of(first))
            for edge, number in passes_of(second, start=middle, pen=pen):
                passes[edge] = passes.get(edge, 0) + number
            self.assertEqual(passes_of(first + second), sorted(passes.items()))

    def test_several_times(self):
        for text, times in itertools.product(TEXTS, range(5)):
            program = Program(text)
            many = program * times
            if many.length > 1000:
                continue
            self.assertEqual(drawn(many).edges, tuple(odd_ones(edges_passed(all_steps(text) * times))))
            self.assertEqual(motion_of(many), motion_of(program) * times)
            expected, pose, pen = Picture([]), (0, 0, 0), True
            for _ in range(times):
                expected = expected ^ drawn(program, start=pose, pen=pen)
                pose, pen = pose_after(program, program.length, start=pose), pen_after(program, pen=pen)
            self.assertEqual(drawn(many), expected)
            self.assertEqual(pose_after(many, many.length), pose)

    def test_great_numbers_of_times(self):
        for text in TEXTS:
            program = Program(text)
            for times in [10 ** 30, 10 ** 30 - 1, 7 * 10 ** 20 + 2]:
                self.assertEqual(motion_of(program * times), motion_of(program) * times)


class MirroredTest(unittest.TestCase):
    def test_pictures(self):
        for text, pen in itertools.product(TEXTS, PENS):
            program = Program(text)
            self.assertEqual(drawn(-program, pen=pen), mirrored(drawn(program, pen=pen)))

    def test_motions_and_points(self):
        for text in TEXTS:
            program = Program(text)
            dx, dy = motion_of(program).shift
            self.assertEqual(motion_of(-program), Motion(-motion_of(program).turn % 4, dx, -dy))
            self.assertEqual(points_of(-program), [(x, -y) for x, y in points_of(program)])
            for x, y in points_of(program):
                self.assertEqual(first_at(-program, (x, -y)), first_at(program, (x, y)))


class BackwardTest(unittest.TestCase):
    def test_back_along_the_same_edges(self):
        for text, start in itertools.product(WITHOUT_PEN, POSES[:2]):
            program = Program(text)
            end = pose_after(program, program.length, start=start)
            self.assertEqual(pose_after(~program, program.length, start=end), start)
            self.assertEqual(passes_of(~program, start=end), passes_of(program, start=start))
            self.assertEqual(points_of(~program, start=end), points_of(program, start=start)[::-1])
            self.assertEqual(drawn(program + ~program, start=start), Picture([]))
            self.assertEqual(motion_of(~program), -motion_of(program))

    def test_there_are_many(self):
        self.assertGreater(len(WITHOUT_PEN), 25)


class OtherPoseTest(unittest.TestCase):
    def test_pictures(self):
        for text, pose, pen in itertools.product(TEXTS, POSES, PENS):
            program = Program(text)
            self.assertEqual(drawn(program, start=pose, pen=pen), placed(drawn(program, pen=pen), pose))

    def test_points_and_stretches(self):
        for text, pose in itertools.product(TEXTS, POSES):
            program = Program(text)
            x, y, heading = pose
            place = [Motion(0, dx, dy)(pose)[:2] for dx, dy in points_of(program)]
            self.assertEqual(points_of(program, start=pose), place)
            stretches = [tuple(Motion(0, dx, dy)(pose)[:2] for dx, dy in stretch) for stretch in stretches_of(program)]
            self.assertEqual(stretches_of(program, start=pose), stretches)


class AgreementTest(unittest.TestCase):
    def test_the_picture_is_what_is_passed_an_odd_number_of_times(self):
        for text, pen in itertools.product(TEXTS, PENS):
            program = Program(text)
            odd = [edge for edge, number in passes_of(program, pen=pen) if number % 2 == 1]
            self.assertEqual(list(drawn(program, pen=pen).edges), odd)

    def test_the_stretches_pass_what_is_passed(self):
        for text, pen in itertools.product(TEXTS, PENS):
            program = Program(text)
            found = {}
            for stretch in stretches_of(program, pen=pen):
                for one, two in zip(stretch, stretch[1:]):
                    edge = edge_between(one, two)
                    found[edge] = found.get(edge, 0) + 1
            self.assertEqual(passes_of(program, pen=pen), sorted(found.items()))

    def test_the_points_lie_on_the_way(self):
        for text in TEXTS:
            program = Program(text)
            poses = [pose_after(program, index) for index in range(program.length + 1)]
            points = [poses[0][:2]] + [after[:2] for before, after in zip(poses, poses[1:]) if before[:2] != after[:2]]
            self.assertEqual(points_of(program), points)
            for point in points:
                index = first_at(program, point)
                self.assertEqual(pose_after(program, index)[:2], point)
                self.assertNotIn(point, [pose[:2] for pose in poses[:index]])

    def test_from_a_source(self):
        source = "side: f2 l\nroom: ( side )4\nroom u f3 d room"
        self.assertEqual(drawn(read_source(source)), drawn(routine(source, "room")) ^ drawn(routine(source, "room")).moved(3, 0))
        self.assertEqual(len(stretches_of(read_source(source))), 2)
        self.assertEqual(motion_of(read_source(source)), Motion(0, 3, 0))

    def test_equal_arguments_give_equal_results(self):
        for text in TEXTS:
            one, two = Program(text), Program(text)
            self.assertEqual(drawn(one), drawn(two))
            self.assertEqual(passes_of(one), passes_of(one))
            self.assertEqual(stretches_of(one), stretches_of(two))
            self.assertEqual(motion_of(one), motion_of(two))
            self.assertEqual(one.text, text)


if __name__ == "__main__":
    unittest.main()
