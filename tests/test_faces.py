"""inside_of, count_inside, is_inside, outline_of, winding and area_of."""

import itertools
import unittest

from helpers import (WRONG_POINTS, WRONG_VALUES, Whole, all_edges, all_sets, all_steps, check_errors, check_too_large,
                     grid_of_faces, nested, some_sets, some_texts, walk)
from plotpens.errors import InvalidFace, InvalidFaces, InvalidPicture, InvalidProgram, NotClosed, NotEven
from plotpens.faces import area_of, count_inside, inside_of, is_inside, outline_of, winding
from plotpens.motions import motion_of
from plotpens.odds import is_even
from plotpens.paths import points_of
from plotpens.pictures import Picture, drawn
from plotpens.programs import Program

FAR = 10 ** 99
BLANK = Picture([])
ONE = Picture([(0, 0, 0)])
SQUARE = drawn(Program("( f l )4"))
SETS = all_sets(grid_of_faces(3, 3)) + some_sets(61, 100, grid_of_faces(5, 6))
AROUND = [(x, y) for x in range(-2, 8) for y in range(-2, 8)]
WRONG_PICTURES = WRONG_VALUES + ["", [], (), [(0, 0, 0)], ((0, 0, 0),), (0, 0, 0), Program("f")]
# Closed paths: circles in both directions, several times, figures of eight, there and back, with the pen up in parts.
CLOSED = ["", "l", "f b", "f l2 f", "( f l )4", "( f r )4", "( f2 l )4", "( f2 r )4", "( f l )8", "( f l )12", "( f3 r )12",
          "( f l )4 ( f r )4", "( f l )4 ( b r )4", "f2 l f l f4 r f r f2 r f2", "f l f r f l f r b2 r f2",
          "( f2 l )4 ( f l )4 f u ( f l )4 b d", "u ( f l )4 d", "( f u l f d l )2", "f ( f2 l f3 l )2 b", "f5 ( f l )4 b5",
          "( b l )4", "f3 l2 f3 l2 b2 f2"]


def closed_texts():
    """Texts whose paths are closed: rounds that close, as often as needed."""
    found = []
    for text in some_texts(62, 400, 9):
        program = Program(text)
        order = motion_of(program).order()
        if order is not None and program.length * order <= 300:
            found.append((program * order).text)
    return found


def brute_outline(faces):
    """The edges of a box that border exactly one face."""
    found = []
    for x, y, side in all_edges(8, 8):
        beside = [(x, y), (x, y - 1) if side == 0 else (x - 1, y)]
        if len([face for face in beside if face in faces]) == 1:
            found.append((x, y, side))
    return found


def turns_around(steps, face):
    """The winding, by the moves below the face: to the right they count once more, to the left once less."""
    rows = walk(steps)
    total = 0
    for (x, y, _, _), (next_x, _, _, _) in zip(rows, rows[1:]):
        if y <= face[1] and min(x, next_x) == face[0]:
            total += next_x - x
    return total


class OutlineTest(unittest.TestCase):
    def test_sets_of_faces(self):
        for faces in SETS:
            picture = outline_of(faces)
            self.assertIs(type(picture), Picture)
            self.assertEqual(list(picture.edges), brute_outline(faces))
            self.assertEqual(outline_of(faces[::-1]), picture)
            self.assertIs(is_even(picture), True)

    def test_some(self):
        self.assertEqual(outline_of([]), BLANK)
        self.assertEqual(outline_of([(0, 0)]), SQUARE)
        self.assertEqual(outline_of([(FAR, -FAR)]), SQUARE.moved(FAR, -FAR))
        self.assertEqual(len(outline_of(grid_of_faces(3, 3))), 12)
        self.assertEqual(len(outline_of([face for face in grid_of_faces(3, 3) if face != (1, 1)])), 16)
        self.assertEqual(outline_of([(Whole(0), Whole(0))]), SQUARE)

    def test_faces_that_touch_in_a_corner(self):
        self.assertEqual(outline_of([(0, 0), (1, 1)]), SQUARE ^ SQUARE.moved(1, 1))
        self.assertEqual(len(outline_of([(0, 1), (1, 0)])), 8)

    def test_what_is_no_list_of_faces(self):
        wrong = WRONG_VALUES + ["", "ab", (), ((0, 0),), {(0, 0)}, {(0, 0): 1}, (0, 0), [[0, 0]], [(0, 0, 0)], [0, 0], SQUARE,
                                [SQUARE], [[(0, 0)]]]
        for value in wrong:
            with self.subTest(value=repr(value)), self.assertRaises(InvalidFaces):
                outline_of(value)
        for value in WRONG_POINTS:
            for faces in [[value], [(0, 0), value], [value, (0, 0)], [(0, 0), value, (0, 0)]]:
                with self.subTest(faces=repr(faces)[:80]), self.assertRaises(InvalidFaces):
                    outline_of(faces)

    def test_faces_that_stand_twice(self):
        for faces in SETS[1:60]:
            for more in [faces[:1], faces[-1:], faces]:
                with self.assertRaises(InvalidFaces):
                    outline_of(faces + more)

    def test_the_list_stays_as_it_was(self):
        faces = [(1, 0), (0, 0)]
        outline_of(faces)
        self.assertEqual(faces, [(1, 0), (0, 0)])


class InsideTest(unittest.TestCase):
    def test_sets_of_faces(self):
        for faces in SETS:
            picture = Picture(brute_outline(faces))
            self.assertEqual(inside_of(picture), sorted(faces))
            self.assertEqual(count_inside(picture), len(faces))

    def test_single_faces(self):
        for faces in SETS[::3]:
            picture = Picture(brute_outline(faces))
            for face in AROUND:
                self.assertIs(is_inside(picture, face), face in faces)

    def test_far_coordinates(self):
        for faces, (dx, dy) in itertools.product(SETS[::25], [(FAR, -FAR), (-FAR, FAR), (-FAR, 3)]):
            picture = outline_of(faces).moved(dx, dy)
            self.assertEqual(inside_of(picture), sorted((x + dx, y + dy) for x, y in faces))
            self.assertEqual(count_inside(picture), len(faces))
            for x, y in AROUND[::7]:
                self.assertIs(is_inside(picture, (x + dx, y + dy)), (x, y) in faces)

    def test_parts_far_from_each_other(self):
        places = [(0, 0), (FAR, 0), (0, FAR), (-FAR, 7), (10 ** 30, 0), (5, 0), (5, -FAR)]
        picture = BLANK
        for x, y in places:
            picture = picture ^ SQUARE.moved(x, y)
        self.assertEqual(inside_of(picture), sorted(places))
        self.assertEqual(count_inside(picture), 7)
        for x, y in places:
            self.assertIs(is_inside(picture, (x, y)), True)
            for dx, dy in [(1, 0), (-1, 0), (0, 1), (0, -1), (2, 0)]:
                self.assertIs(is_inside(picture, (x + dx, y + dy)), False)

    def test_holes(self):
        ring = [face for face in grid_of_faces(5, 5) if face not in [(2, 2), (1, 3)]]
        picture = outline_of(grid_of_faces(5, 5)) ^ SQUARE.moved(2, 2) ^ SQUARE.moved(1, 3)
        self.assertEqual(inside_of(picture), ring)
        self.assertEqual([count_inside(picture), is_inside(picture, (2, 2)), is_inside(picture, (2, 1))], [23, False, True])
        nest = BLANK
        for many in range(1, 8):
            nest = nest ^ outline_of(grid_of_faces(2 * many, 2 * many)).moved(-many, -many)
        self.assertEqual(count_inside(nest), 14 ** 2 - 12 ** 2 + 10 ** 2 - 8 ** 2 + 6 ** 2 - 4 ** 2 + 2 ** 2)

    def test_the_blank_picture(self):
        self.assertEqual([inside_of(BLANK), count_inside(BLANK), is_inside(BLANK, (0, 0))], [[], 0, False])

    def test_all_pictures_in_a_box(self):
        outlines = {outline_of(faces).edges: sorted(faces) for faces in all_sets(grid_of_faces(2, 2))}
        even = 0
        for edges in all_sets(all_edges(2, 2)):
            picture = Picture(edges)
            if is_even(picture):
                even = even + 1
                self.assertEqual(inside_of(picture), outlines[picture.edges])
            else:
                for call in [inside_of, count_inside, lambda picture: is_inside(picture, (0, 0))]:
                    with self.assertRaises(NotEven):
                        call(picture)
        self.assertEqual(even, 16)

    def test_great_squares(self):
        for width, height in [(100, 100), (99, 101), (101, 100), (100, 101), (249, 249)]:
            program = Program(f"( f{width} l f{height} l )2")
            picture = drawn(program, start=(-3, 5, 0))
            self.assertEqual(count_inside(picture), width * height)
            self.assertIs(is_inside(picture, (-3, 5)), True)
            self.assertIs(is_inside(picture, (width - 4, height + 4)), True)
            self.assertIs(is_inside(picture, (width - 3, height + 4)), False)
            self.assertIs(is_inside(picture, (width - 4, height + 5)), False)
            if width * height <= 10000:
                self.assertEqual(inside_of(picture), [(x - 3, y + 5) for x, y in grid_of_faces(width, height)])
                self.assertEqual(outline_of(inside_of(picture)), picture)
            else:
                check_too_large(self, 10000, lambda: inside_of(picture))

    def test_ten_thousand_faces_and_one(self):
        square = outline_of(grid_of_faces(100, 100))
        self.assertEqual(len(inside_of(square)), 10000)
        more = square ^ SQUARE.moved(FAR, 0)
        check_too_large(self, 10000, lambda: inside_of(more))
        self.assertEqual(count_inside(more), 10001)
        self.assertEqual(len(inside_of(more ^ SQUARE.moved(50, 50))), 10000)

    def test_odd_pictures_are_not_too_large(self):
        for picture in [outline_of(grid_of_faces(101, 100)) ^ ONE, ONE, drawn(Program("( f l )3"))]:
            for call in [inside_of, count_inside, lambda picture: is_inside(picture, (0, 0))]:
                with self.assertRaises(NotEven):
                    call(picture)

    def test_the_list_is_new(self):
        inside_of(SQUARE).append((9, 9))
        self.assertEqual(inside_of(SQUARE), [(0, 0)])
        self.assertEqual(SQUARE, outline_of([(0, 0)]))


class WindingTest(unittest.TestCase):
    def test_closed_paths(self):
        texts = CLOSED + closed_texts()
        self.assertGreater(len(texts), 120)
        for text in texts:
            program, steps = Program(text), all_steps(text)
            points = points_of(program)
            box = list(itertools.product(range(min(x for x, y in points) - 1, max(x for x, y in points) + 1),
                                         range(min(y for x, y in points) - 1, max(y for x, y in points) + 1)))
            self.assertEqual(area_of(program), sum(turns_around(steps, face) for face in box))
            for face in box[::1 + len(box) // 60]:
                self.assertEqual(winding(program, face), turns_around(steps, face))

    def test_some(self):
        cases = [("( f l )4", (0, 0), 1, 1), ("( f r )4", (0, -1), -1, -1), ("( f l )4", (0, -1), 0, 1), ("( f l )12", (0, 0), 3, 3),
                 ("( f2 r )8", (1, -2), -2, -8), ("( f l )4 ( f r )4", (0, 0), 1, 0), ("( f l )4 ( f r )4", (0, -1), -1, 0),
                 ("f b", (0, 0), 0, 0), ("f l f l2 f r f", (0, 0), 0, 0), ("f2 l f l f4 r f r f2 r f2", (1, 0), 1, 0),
                 ("f2 l f l f4 r f r f2 r f2", (-1, 1), -1, 0), ("( f2 l )4 ( f l )4", (0, 0), 2, 5),
                 ("( f2 l )4 ( f l )4", (1, 1), 1, 5), ("", (0, 0), 0, 0), ("( b l )4", (-1, -1), 1, 1)]
        for text, face, number, area in cases:
            self.assertEqual((winding(Program(text), face), area_of(Program(text))), (number, area))

    def test_far_faces(self):
        for face in itertools.product([-FAR, -1, 1, FAR], [-FAR, -1, 1, FAR]):
            self.assertEqual(winding(Program("( f l )4"), face), 0)

    def test_the_pen_makes_no_difference(self):
        for text in CLOSED:
            up = Program(f"u {text}".strip())
            for face in AROUND[::3]:
                self.assertEqual(winding(up, face), winding(Program(text), face))
            self.assertEqual(area_of(up), area_of(Program(text)))

    def test_backwards_and_mirrored(self):
        for text in CLOSED:
            program = Program(text)
            for x, y in AROUND[::3]:
                self.assertEqual(winding(-program, (x, -1 - y)), -winding(program, (x, y)))
            self.assertEqual(area_of(-program), -area_of(program))
            if "u" not in program and motion_of(program).turn == 0:
                self.assertEqual(area_of(~program), -area_of(program))
                self.assertEqual(area_of(program * 3), 3 * area_of(program))

    def test_inside_exactly_if_the_number_is_odd(self):
        texts = [text for text in CLOSED + closed_texts() if "u" not in text]
        self.assertGreater(len(texts), 40)
        for text in texts:
            program = Program(text)
            picture = drawn(program)
            inside = inside_of(picture)
            for face in AROUND[::2] + inside[::5]:
                self.assertIs(is_inside(picture, face), winding(program, face) % 2 == 1)

    def test_paths_that_are_not_closed(self):
        for text in ["f", "f l f2 r", "( f l )3", "u f", "u f d", "( f l )4 f", "f b2", f"( f l )249 f"]:
            program = Program(text)
            with self.assertRaises(NotClosed):
                winding(program, (0, 0))
            with self.assertRaises(NotClosed):
                area_of(program)

    def test_the_heading_at_the_end_does_not_count(self):
        for text in ["( f l )4 l", "( f l )3 f", "l", "f l2 f"]:
            self.assertEqual(winding(Program(text), (5, 5)), 0)
        self.assertEqual([area_of(Program("( f l )3 f")), area_of(Program("( f l )3 f r"))], [1, 1])

    def test_a_thousand_steps(self):
        self.assertEqual(area_of(Program("( f249 l )4")), 249 ** 2)
        self.assertEqual(winding(Program("( f l )500"), (0, 0)), 125)
        self.assertEqual(winding(Program("( f249 r )4"), (248, -249)), -1)
        for text in ["( f l )500 l", "( f250 l )4", nested(12, "f b", 10 ** 30), "f1001"]:
            program = Program(text)
            check_too_large(self, 1000, lambda: area_of(program))
            check_too_large(self, 1000, lambda: winding(program, (0, 0)))


class ErrorsTest(unittest.TestCase):
    def test_pictures_and_faces(self):
        for good in [BLANK, SQUARE]:
            check_errors(self, inside_of, [(good, WRONG_PICTURES, InvalidPicture)])
            check_errors(self, count_inside, [(good, WRONG_PICTURES, InvalidPicture)])
            check_errors(self, is_inside, [(good, WRONG_PICTURES, InvalidPicture), ((0, 0), WRONG_POINTS, InvalidFace)])
        for face in WRONG_POINTS:
            with self.assertRaises(InvalidFace):
                is_inside(ONE, face)

    def test_programs_and_faces(self):
        wrong = WRONG_VALUES + ["f", SQUARE]
        check_errors(self, winding, [(Program("f b"), wrong, InvalidProgram), ((0, 0), WRONG_POINTS, InvalidFace)])
        check_errors(self, area_of, [(Program("f b"), wrong, InvalidProgram)])
        for text in ["f", "f1001"]:
            for face in WRONG_POINTS:
                with self.assertRaises(InvalidFace):
                    winding(Program(text), face)
        check_too_large(self, 1000, lambda: winding(Program("f1001"), (0, 0)))


if __name__ == "__main__":
    unittest.main()
