"""What holds of moved, turned and mirrored pictures, and of programs from other poses."""

import itertools
import unittest

from helpers import all_edges, grid_of_faces, some_sets, some_texts
from plotpens.faces import area_of, count_inside, inside_of, is_inside, outline_of, winding
from plotpens.motions import Motion, motion_of
from plotpens.odds import degree_at, ends_of, is_even, odd_points, parts_of
from plotpens.paths import stretches_of
from plotpens.pictures import Picture, drawn
from plotpens.programs import Program
from plotpens.strokes import fewest_plain, fewest_toggled, is_plain, is_toggled, plain_strokes, toggled_strokes
from plotpens.writing import packed, program_for

FAR = 10 ** 50
PICTURES = [Picture(edges) for edges in some_sets(71, 40, all_edges(3, 3)) + some_sets(72, 10, all_edges(5, 4))]
OUTLINES = [outline_of(faces) for faces in some_sets(73, 40, grid_of_faces(4, 4))]
TEXTS = some_texts(74, 80, 9)
PLACES = [(x, y, heading) for x, y in [(0, 0), (7, -4), (FAR, -FAR)] for heading in range(4)]
PENS = [True, False]


def placed(picture, pose):
    x, y, heading = pose
    return picture.turned(heading).moved(x, y)


def placed_point(point, pose):
    return Motion(0, *point)(pose)[:2]


def placed_face(face, pose):
    """The face whose corners are those of the face, placed."""
    x, y = face
    corners = [placed_point((x + dx, y + dy), pose) for dx in range(2) for dy in range(2)]
    return min(corners)


def mirrored(picture):
    return Picture([(x, -y, 0) if side == 0 else (x, -y - 1, 1) for x, y, side in picture.edges])


class PlacedPictureTest(unittest.TestCase):
    def test_odd_points(self):
        for picture, pose in itertools.product(PICTURES, PLACES):
            there = placed(picture, pose)
            self.assertEqual(odd_points(there), sorted(placed_point(point, pose) for point in odd_points(picture)))
            self.assertIs(is_even(there), is_even(picture))
            for point in itertools.product(range(4), range(4)):
                self.assertEqual(degree_at(there, placed_point(point, pose)), degree_at(picture, point))

    def test_parts(self):
        for picture, pose in itertools.product(PICTURES, PLACES):
            parts = [placed(part, pose) for part in parts_of(picture)]
            self.assertEqual(parts_of(placed(picture, pose)), sorted(parts, key=lambda part: part.edges))

    def test_strokes(self):
        for picture, pose in itertools.product(PICTURES[::3], PLACES):
            there = placed(picture, pose)
            self.assertEqual(fewest_plain(there), fewest_plain(picture))
            self.assertEqual(fewest_toggled(there), fewest_toggled(picture))
            for strokes, holds in [(plain_strokes(picture), is_plain), (toggled_strokes(picture), is_toggled)]:
                moved = [tuple(placed_point(point, pose) for point in stroke) for stroke in strokes]
                self.assertIs(holds(there, moved), True)
                self.assertIs(holds(there, strokes), there == picture)

    def test_faces(self):
        for picture, pose in itertools.product(OUTLINES, PLACES):
            there = placed(picture, pose)
            self.assertEqual(inside_of(there), sorted(placed_face(face, pose) for face in inside_of(picture)))
            self.assertEqual(outline_of([placed_face(face, pose) for face in inside_of(picture)]), there)
            self.assertEqual(count_inside(there), count_inside(picture))
            for face in grid_of_faces(4, 4)[::3]:
                self.assertIs(is_inside(there, placed_face(face, pose)), is_inside(picture, face))

    def test_programs_for_them(self):
        for picture, pose in itertools.product([picture for picture in PICTURES if len(picture) <= 40][::3], PLACES[:8]):
            there = placed(picture, pose)
            found = program_for(there)
            self.assertEqual(drawn(found, pen=False), there)
            self.assertEqual(len(stretches_of(found, pen=False)), fewest_toggled(picture))


class MirroredTest(unittest.TestCase):
    def test_pictures(self):
        for picture in PICTURES:
            there = mirrored(picture)
            self.assertEqual(odd_points(there), sorted((x, -y) for x, y in odd_points(picture)))
            self.assertEqual(len(parts_of(there)), len(parts_of(picture)))
            self.assertEqual([fewest_plain(there), fewest_toggled(there)], [fewest_plain(picture), fewest_toggled(picture)])

    def test_faces(self):
        for picture in OUTLINES:
            self.assertEqual(inside_of(mirrored(picture)), sorted((x, -1 - y) for x, y in inside_of(picture)))

    def test_programs(self):
        for text, pen in itertools.product(TEXTS, PENS):
            program = Program(text)
            self.assertEqual(ends_of(-program, pen=pen), sorted((x, -y) for x, y in ends_of(program, pen=pen)))
            self.assertEqual(odd_points(drawn(-program, pen=pen)), ends_of(-program, pen=pen))

    def test_paths_round_faces(self):
        for text in TEXTS:
            program = Program(text)
            order = motion_of(program).order()
            if order is not None and program.length * order <= 200:
                closed = program * order
                self.assertEqual(area_of(-closed), -area_of(closed))
                for x, y in grid_of_faces(3, 3):
                    self.assertEqual(winding(-closed, (x - 1, 0 - y)), -winding(closed, (x - 1, y - 1)))


class OtherPosesTest(unittest.TestCase):
    def test_ends(self):
        for text, pose, pen in itertools.product(TEXTS, PLACES, PENS):
            program = Program(text)
            found = ends_of(program, start=pose, pen=pen)
            self.assertEqual(found, sorted(placed_point(point, pose) for point in ends_of(program, pen=pen)))

    def test_what_is_drawn(self):
        for text, pose in itertools.product(TEXTS[::4], PLACES):
            program = Program(text)
            here, there = drawn(program), drawn(program, start=pose)
            self.assertEqual(fewest_plain(there), fewest_plain(here))
            self.assertEqual(fewest_toggled(there), fewest_toggled(here))
            self.assertEqual(len(parts_of(there)), len(parts_of(here)))
            self.assertIs(is_toggled(there, stretches_of(program, start=pose)), True)

    def test_packed_programs_do_the_same(self):
        for text in TEXTS:
            program = Program(text)
            if program.length <= 60:
                again = packed(program)
                self.assertEqual(drawn(again, start=(3, 4, 1)), drawn(program, start=(3, 4, 1)))
                self.assertEqual(ends_of(again), ends_of(program))
                self.assertEqual(motion_of(again), motion_of(program))


class TogetherTest(unittest.TestCase):
    def test_pictures_with_common_edges(self):
        for one, two in zip(PICTURES, PICTURES[1:]):
            both = one ^ two
            odd = set(odd_points(one)) ^ set(odd_points(two))
            self.assertEqual(odd_points(both), sorted(odd))

    def test_outlines_with_common_faces(self):
        for one, two in zip(OUTLINES, OUTLINES[1:]):
            self.assertEqual(inside_of(one ^ two), sorted(set(inside_of(one)) ^ set(inside_of(two))))


if __name__ == "__main__":
    unittest.main()
