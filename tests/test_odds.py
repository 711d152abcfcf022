"""degree_at, odd_points, is_even, parts_of and ends_of."""

import itertools
import unittest

from helpers import (WRONG_POINTS, WRONG_POSES, WRONG_VALUES, all_edges, all_ends, all_sets, all_steps, check_errors,
                     check_too_large, edges_passed, groups_of, nested, odd_ones, short_texts, some_sets, some_texts)
from plotpens.errors import InvalidPicture, InvalidPoint, InvalidPose, InvalidProgram
from plotpens.odds import degree_at, ends_of, is_even, odd_points, parts_of
from plotpens.paths import stretches_of
from plotpens.pictures import Picture, drawn
from plotpens.programs import Program

FAR = 10 ** 99
BLANK = Picture([])
# All pictures in a box of two faces, and some in greater ones.
SETS = all_sets(all_edges(2, 1)) + some_sets(31, 150, all_edges(3, 3)) + some_sets(32, 40, all_edges(6, 5))
ROW = Picture([(x, 0, 0) for x in range(1500)])
COMB = Picture([(x, 0, 0) for x in range(1200)] + [(x, 0, 1) for x in range(1, 1200)])
DOTS = Picture([(2 * x, x, x % 2) for x in range(1300)])
WRONG_PICTURES = WRONG_VALUES + ["", [], (), [(0, 0, 0)], ((0, 0, 0),), (0, 0, 0), Program("f")]
TEXTS = short_texts() + some_texts(33, 200)
STARTS = [(0, 0, 0), (3, -2, 1), (-7, 5, 2), (FAR, -FAR, 3)]
PENS = [True, False]


class DegreeTest(unittest.TestCase):
    def test_small_pictures(self):
        for edges in SETS:
            picture, points = Picture(edges), all_ends(edges)
            for point in itertools.product(range(-1, 5), repeat=2):
                self.assertEqual(degree_at(picture, point), points.count(point))

    def test_some(self):
        cross = Picture([(0, 0, 0), (-1, 0, 0), (0, 0, 1), (0, -1, 1)])
        self.assertEqual([degree_at(cross, point) for point in [(0, 0), (1, 0), (-1, 0), (0, 1), (0, -1), (1, 1)]],
                         [4, 1, 1, 1, 1, 0])
        self.assertEqual(degree_at(BLANK, (0, 0)), 0)
        far = Picture([(FAR, -FAR, 0), (FAR, -FAR, 1), (-FAR, FAR, 0)])
        self.assertEqual([degree_at(far, point) for point in [(FAR, -FAR), (FAR + 1, -FAR), (-FAR, FAR), (FAR, FAR)]],
                         [2, 1, 1, 0])

    def test_large_pictures(self):
        self.assertEqual([degree_at(ROW, (x, 0)) for x in [-1, 0, 1, 1499, 1500, 1501]], [0, 1, 2, 2, 1, 0])
        self.assertEqual([degree_at(COMB, (700, y)) for y in range(3)], [3, 1, 0])


class OddTest(unittest.TestCase):
    def test_small_pictures(self):
        for edges in SETS:
            picture = Picture(edges)
            self.assertEqual(odd_points(picture), odd_ones(all_ends(edges)))
            self.assertIs(is_even(picture), odd_ones(all_ends(edges)) == [])

    def test_some(self):
        self.assertEqual([odd_points(BLANK), is_even(BLANK)], [[], True])
        self.assertEqual(odd_points(Picture([(5, -3, 1)])), [(5, -3), (5, -2)])
        self.assertEqual(odd_points(Picture([(FAR, 0, 0), (-FAR, 0, 0)])),
                         [(-FAR, 0), (1 - FAR, 0), (FAR, 0), (FAR + 1, 0)])
        self.assertIs(is_even(drawn(Program("( f l )4"))), True)
        self.assertIs(is_even(drawn(Program("( f l )3"))), False)

    def test_large_pictures(self):
        self.assertEqual(odd_points(ROW), [(0, 0), (1500, 0)])
        self.assertEqual(len(odd_points(COMB)), 2 * 1199 + 2)
        self.assertEqual(len(odd_points(DOTS)), 2600)

    def test_there_is_an_even_number_of_them(self):
        for edges in SETS:
            self.assertEqual(len(odd_points(Picture(edges))) % 2, 0)

    def test_the_list_is_new(self):
        picture = Picture([(0, 0, 0)])
        odd_points(picture).append((9, 9))
        self.assertEqual(odd_points(picture), [(0, 0), (1, 0)])
        self.assertEqual(picture.edges, ((0, 0, 0),))


class PartsTest(unittest.TestCase):
    def test_small_pictures(self):
        for edges in SETS:
            parts = parts_of(Picture(edges))
            self.assertEqual([list(part.edges) for part in parts], groups_of(edges))

    def test_they_are_pictures(self):
        for edges in SETS[::10]:
            together = BLANK
            for part in parts_of(Picture(edges)):
                self.assertIs(type(part), Picture)
                self.assertEqual(parts_of(part), [part])
                together = together ^ part
            self.assertEqual(together, Picture(edges))

    def test_some(self):
        self.assertEqual(parts_of(BLANK), [])
        self.assertEqual(parts_of(ROW), [ROW])
        self.assertEqual(parts_of(COMB), [COMB])
        self.assertEqual(parts_of(DOTS), [Picture([edge]) for edge in DOTS.edges])

    def test_parts_that_touch_in_one_point_are_one(self):
        corner = Picture([(0, 0, 0), (0, 0, 1), (0, 1, 0), (1, 0, 1), (1, 1, 0), (1, 1, 1), (1, 2, 0), (2, 1, 1)])
        self.assertEqual(parts_of(corner), [corner])
        self.assertEqual(len(parts_of(Picture([(0, 0, 0), (1, 0, 1)]))), 1)
        self.assertEqual(len(parts_of(Picture([(0, 0, 0), (2, 0, 1)]))), 2)

    def test_side_by_side_is_not_connected(self):
        self.assertEqual(len(parts_of(Picture([(0, 0, 0), (0, 1, 0), (0, 2, 0)]))), 3)
        self.assertEqual(len(parts_of(Picture([(0, 0, 0), (0, 1, 0), (1, 0, 1)]))), 1)

    def test_ordered_by_their_least_edges(self):
        edges = [(FAR, 0, 1), (0, 5, 0), (0, 0, 1), (1, 5, 0), (0, 1, 0), (-FAR, 7, 0), (3, 3, 1)]
        expected = [[(-FAR, 7, 0)], [(0, 0, 1), (0, 1, 0)], [(0, 5, 0), (1, 5, 0)], [(3, 3, 1)], [(FAR, 0, 1)]]
        for some in [edges, edges[::-1], sorted(edges)]:
            self.assertEqual(parts_of(Picture(some)), [Picture(part) for part in expected])

    def test_the_list_is_new(self):
        picture = Picture([(0, 0, 0), (5, 5, 0)])
        parts_of(picture).clear()
        self.assertEqual(len(parts_of(picture)), 2)


class EndsTest(unittest.TestCase):
    def expected(self, program, **values):
        stretches = stretches_of(program, **values)
        return odd_ones([point for stretch in stretches for point in (stretch[0], stretch[-1])])

    def test_against_the_stretches_and_the_odd_points(self):
        for text, pen in itertools.product(TEXTS, PENS):
            program = Program(text)
            found = ends_of(program, pen=pen)
            self.assertEqual(found, self.expected(program, pen=pen))
            self.assertEqual(found, odd_points(drawn(program, pen=pen)))
            self.assertEqual(found, odd_ones(all_ends(odd_ones(edges_passed(all_steps(text), pen=pen)))))

    def test_from_another_start(self):
        for text, start, pen in itertools.product(TEXTS[::4], STARTS, PENS):
            program = Program(text)
            found = ends_of(program, start=start, pen=pen)
            self.assertEqual(found, self.expected(program, start=start, pen=pen))
            self.assertEqual(found, odd_points(drawn(program, start=start, pen=pen)))

    def test_some(self):
        cases = [("", []), ("u f d", []), ("f", [(0, 0), (1, 0)]), ("( f l )4", []), ("f b", []), ("f u d f", [(0, 0), (2, 0)]),
                 ("f u d b", []), ("f2 u b d l f", [(0, 0), (1, 0), (1, 1), (2, 0)]), ("f u l f r d b", [(0, 0), (0, 1), (1, 0),
                                                                                                      (1, 1)])]
        for text, points in cases:
            self.assertEqual(ends_of(Program(text)), points)

    def test_a_thousand_steps(self):
        self.assertEqual(ends_of(Program("f1000")), [(0, 0), (1000, 0)])
        self.assertEqual(ends_of(Program("( f u f d )250")), [(x, 0) for x in range(500)])
        for text in ["f1001", "( f b )500 u", nested(12, "f", 10 ** 30)]:
            check_too_large(self, 1000, lambda: ends_of(Program(text)))
            check_too_large(self, 1000, lambda: ends_of(Program(text), start=(1, 2, 3), pen=False))

    def test_the_list_is_new(self):
        program = Program("f")
        ends_of(program).clear()
        self.assertEqual(ends_of(program), [(0, 0), (1, 0)])


class ErrorsTest(unittest.TestCase):
    def test_pictures(self):
        for good in [BLANK, Picture([(0, 0, 0)])]:
            check_errors(self, degree_at, [(good, WRONG_PICTURES, InvalidPicture), ((0, 0), WRONG_POINTS, InvalidPoint)])
            for call in [odd_points, is_even, parts_of]:
                check_errors(self, call, [(good, WRONG_PICTURES, InvalidPicture)])

    def test_programs(self):
        wrong = WRONG_VALUES + ["f", BLANK]
        check_errors(self, lambda program, start: ends_of(program, start=start),
                     [(Program("f"), wrong, InvalidProgram), ((0, 0, 0), WRONG_POSES, InvalidPose)])
        for start in WRONG_POSES:
            with self.assertRaises(InvalidPose):
                ends_of(Program("f1001"), start=start)


if __name__ == "__main__":
    unittest.main()
