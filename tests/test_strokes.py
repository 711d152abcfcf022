"""fewest_plain, plain_strokes, is_plain, fewest_toggled, toggled_strokes and is_toggled."""

import itertools
import random
import unittest

from helpers import (WRONG_POINTS, WRONG_VALUES, Whole, all_edges, all_ends, all_sets, all_steps, check_errors, check_too_large,
                     edges_of_strokes, groups_of, odd_ones, some_sets, some_texts)
from plotpens.errors import InvalidPicture
from plotpens.faces import outline_of
from plotpens.paths import stretches_of
from plotpens.pictures import Picture, drawn, passes_of
from plotpens.programs import Program
from plotpens.strokes import fewest_plain, fewest_toggled, is_plain, is_toggled, plain_strokes, toggled_strokes

FAR = 10 ** 99
BLANK = Picture([])
ONE = Picture([(0, 0, 0)])
SQUARE = drawn(Program("( f l )4"))
SETS = all_sets(all_edges(2, 1)) + some_sets(41, 150, all_edges(3, 3)) + some_sets(42, 40, all_edges(7, 6))
ROW = Picture([(x, 0, 0) for x in range(1500)])
COMB = Picture([(x, 0, 0) for x in range(1000)] + [(x, 0, 1) for x in range(1, 1000)])
DOTS = Picture([(2 * x, 3 * x, x % 2) for x in range(300)])
FAR_DOTS = Picture([(x * FAR // 300, -x * FAR // 700, x % 2) for x in range(300)])
BOXES = outline_of([(30 * x, 31 * y) for x in range(20) for y in range(20)])
LARGE = [ROW, COMB, DOTS, BOXES]
WRONG_PICTURES = WRONG_VALUES + ["", [], (), [(0, 0, 0)], ((0, 0, 0),), (0, 0, 0), Program("f")]


def fewest_of(edges):
    """Half as many as the odd points, at least 1."""
    return max(1, len(odd_ones(all_ends(edges))) // 2) if edges else 0


def are_strokes(value):
    """Whether a value is a list of strokes, one kind after the other."""
    if type(value) is not list:
        return False
    for stroke in value:
        if type(stroke) is not tuple or len(stroke) < 2:
            return False
        for one, other in zip(stroke, stroke[1:]):
            if abs(one[0] - other[0]) + abs(one[1] - other[1]) != 1:
                return False
    return True


def cut_in_two(strokes):
    """The strokes, each of them in two where it has a point within."""
    found = []
    for stroke in strokes:
        middle = len(stroke) // 2
        found.extend([stroke[:middle + 1], stroke[middle:]] if len(stroke) > 2 else [stroke])
    return found


class PlainTest(unittest.TestCase):
    def test_number_is_half_the_odd_points_of_each_part(self):
        for edges in SETS:
            expected = sum(fewest_of(group) for group in groups_of(edges))
            self.assertEqual(fewest_plain(Picture(edges)), expected)

    def test_strokes_pass_each_edge_once(self):
        for edges in SETS:
            strokes = plain_strokes(Picture(edges))
            self.assertTrue(are_strokes(strokes), strokes)
            self.assertEqual(sorted(edges_of_strokes(strokes)), sorted(edges))
            self.assertEqual(len(strokes), fewest_plain(Picture(edges)))
            self.assertIs(is_plain(Picture(edges), strokes), True)

    def test_some(self):
        self.assertEqual([fewest_plain(BLANK), plain_strokes(BLANK)], [0, []])
        self.assertEqual(fewest_plain(ONE), 1)
        self.assertIn(plain_strokes(ONE), [[((0, 0), (1, 0))], [((1, 0), (0, 0))]])
        self.assertEqual(fewest_plain(SQUARE), 1)
        self.assertEqual(fewest_plain(Picture([(0, 0, 0), (-1, 0, 0), (0, 0, 1)])), 2)
        self.assertEqual(fewest_plain(Picture([(0, 0, 0), (-1, 0, 0), (0, 0, 1), (0, -1, 1)])), 2)
        self.assertEqual(fewest_plain(SQUARE ^ SQUARE.moved(5, 5) ^ ONE.moved(-4, 0)), 3)
        self.assertEqual(fewest_plain(SQUARE ^ SQUARE.moved(1, 1)), 1)
        self.assertEqual(fewest_plain(Picture(all_edges(7, 7))), 12)

    def test_large_pictures(self):
        self.assertEqual([fewest_plain(picture) for picture in LARGE], [1, 1000, 300, 400])
        for picture in LARGE:
            strokes = plain_strokes(picture)
            self.assertTrue(are_strokes(strokes))
            self.assertEqual(sorted(edges_of_strokes(strokes)), list(picture.edges))
            self.assertEqual(len(strokes), fewest_plain(picture))

    def test_great_coordinates(self):
        picture = Picture([(x + FAR, y - FAR, side) for x, y, side in all_edges(3, 2)] + [(-FAR, FAR, 0)])
        for some in [picture, FAR_DOTS]:
            strokes = plain_strokes(some)
            self.assertEqual(sorted(edges_of_strokes(strokes)), list(some.edges))
            self.assertEqual(len(strokes), fewest_plain(some))
            self.assertTrue(is_plain(some, strokes))
        self.assertEqual([fewest_plain(picture), fewest_plain(FAR_DOTS)], [4, 300])

    def test_the_list_is_new(self):
        for edges in SETS[::20]:
            picture = Picture(edges)
            before = plain_strokes(picture)
            plain_strokes(picture).append("more")
            self.assertEqual(plain_strokes(picture), before)
            self.assertEqual(picture, Picture(edges))


class IsPlainTest(unittest.TestCase):
    def test_the_same_strokes_otherwise(self):
        for edges in SETS[::3]:
            picture = Picture(edges)
            strokes = plain_strokes(picture)
            backward = [stroke[::-1] for stroke in strokes]
            pairs = [pair for stroke in strokes for pair in zip(stroke, stroke[1:])]
            for value in [backward, strokes[::-1], cut_in_two(strokes), cut_in_two(backward)[::-1], pairs]:
                self.assertIs(is_plain(picture, value), True)

    def test_other_strokes(self):
        for edges in [edges for edges in SETS if edges][::3]:
            picture = Picture(edges)
            strokes = plain_strokes(picture)
            x, y = strokes[0][0]
            more = [((x, y), (x, y - 1)), ((x, y), (x, y - 1), (x, y)), ((FAR, 0), (FAR + 1, 0))]
            for value in [strokes[1:], strokes[:-1], strokes + strokes, strokes + strokes[:1], strokes + cut_in_two(strokes)]:
                self.assertIs(is_plain(picture, value), False)
            for stroke in more:
                self.assertIs(is_plain(picture, strokes + [stroke]), False)
            self.assertIs(is_plain(picture, [strokes[0][:-1]] + strokes[1:]), False)
            self.assertIs(is_plain(picture, [strokes[0] + strokes[0][-2:-1]] + strokes[1:]), False)

    def test_some(self):
        good = [[((0, 0), (1, 0))], [((1, 0), (0, 0))], [((Whole(0), 0), (1, Whole(0)))]]
        wrong = [[], [()], [((0, 0),)], [((0, 0), (1, 0)), ((0, 0),)], [((0, 0), (0, 0))], [((0, 0), (1, 1))],
                 [((0, 0), (2, 0))], [((0, 0), (1, 0), (1, 0))], [((0, 0), (1, 0), (0, 0))], [((0, 0), (1, 0), (0, 0), (1, 0))],
                 [((0, 0), (1, 0)), ((1, 0), (0, 0))], [((0, 0), (1, 0), (2, 0))], [((0, 1), (1, 1))], [((0, 0), (0, 1))],
                 [((0, 0), (1, 0)), ()], [[(0, 0), (1, 0)]], (((0, 0), (1, 0)),), [([0, 0], [1, 0])], [((0, 0), [1, 0])],
                 [((False, 0), (True, 0))], [((0, 0), (1, False))], [((0, 0, 0), (1, 0, 0))], [(0, 0), (1, 0)], [(0, 0, 0)],
                 ((0, 0), (1, 0)), "f", {((0, 0), (1, 0)): 1}, [((0, 0), (1, 0)), None]]
        for value in good:
            self.assertIs(is_plain(ONE, value), True, value)
        for value in wrong:
            self.assertIs(is_plain(ONE, value), False, value)

    def test_values_of_any_kind(self):
        for picture in [BLANK, ONE, SQUARE]:
            for value in WRONG_VALUES + ["", (), {}, picture, Program("f")]:
                for inside in [value, [value], [((0, 0), (1, 0)), value], [(value, value)]]:
                    self.assertIs(is_plain(picture, inside), False)
                    self.assertIs(is_toggled(picture, inside), False)
            for value in WRONG_POINTS:
                for stroke in [(value, (1, 0)), ((0, 0), value), ((0, 0), (1, 0), value), (value, value)]:
                    self.assertIs(is_plain(picture, [stroke]), False)
                    self.assertIs(is_toggled(picture, [stroke]), False)

    def test_blank_pictures(self):
        self.assertIs(is_plain(BLANK, []), True)
        for value in [[()], [((0, 0),)], [((0, 0), (1, 0))], [((0, 0), (1, 0), (0, 0))]]:
            self.assertIs(is_plain(BLANK, value), False)

    def test_many_strokes(self):
        strokes = [((x, 0), (x + 1, 0)) for x in range(1500)]
        self.assertIs(is_plain(ROW, strokes), True)
        self.assertIs(is_plain(ROW, strokes[::-1]), True)
        self.assertIs(is_plain(ROW, strokes[1:]), False)
        self.assertIs(is_plain(ROW, [tuple((x, 0) for x in range(1500, -1, -1))]), True)

    def test_the_value_stays_as_it_was(self):
        strokes = [((1, 0), (0, 0))]
        is_plain(ONE, strokes), is_toggled(ONE, strokes)
        self.assertEqual(strokes, [((1, 0), (0, 0))])


class ToggledTest(unittest.TestCase):
    def check(self, picture):
        strokes = toggled_strokes(picture)
        self.assertTrue(are_strokes(strokes))
        passed = edges_of_strokes(strokes)
        numbers = {}
        for edge in passed:
            numbers[edge] = numbers.get(edge, 0) + 1
        self.assertEqual(sorted(edge for edge in numbers if numbers[edge] % 2 == 1), list(picture.edges))
        self.assertEqual(len(strokes), fewest_toggled(picture))
        self.assertIs(is_toggled(picture, strokes), True)

    def test_number_is_half_the_odd_points(self):
        for edges in SETS:
            self.assertEqual(fewest_toggled(Picture(edges)), fewest_of(edges))

    def test_strokes_draw_the_picture(self):
        for edges in SETS:
            self.check(Picture(edges))

    def test_some(self):
        self.assertEqual([fewest_toggled(BLANK), toggled_strokes(BLANK)], [0, []])
        self.assertEqual([fewest_toggled(ONE), fewest_toggled(SQUARE)], [1, 1])
        self.assertEqual(fewest_toggled(SQUARE ^ SQUARE.moved(5, 5) ^ SQUARE.moved(-7, 9)), 1)
        self.assertEqual(fewest_toggled(SQUARE ^ SQUARE.moved(5, 5) ^ ONE.moved(-4, 0)), 1)
        self.assertEqual(fewest_toggled(SQUARE ^ ONE.moved(5, 5) ^ ONE.moved(-4, 0)), 2)
        self.assertEqual([fewest_toggled(picture) for picture in LARGE], [1, 1000, 300, 1])
        self.assertEqual(fewest_toggled(FAR_DOTS), 300)
        self.assertEqual(fewest_toggled(SQUARE ^ SQUARE.moved(FAR, -FAR)), 1)

    def test_parts_far_from_each_other(self):
        chance = random.Random(43)
        for _ in range(60):
            picture = BLANK
            for part in [SQUARE, ONE, SQUARE.turned(3), ONE.turned(1)][:chance.randrange(5)] + [SQUARE, SQUARE]:
                picture = picture ^ part.moved(chance.randrange(-400, 500), chance.randrange(-400, 500))
            self.check(picture)

    def test_parts_whose_ways_cross_other_parts(self):
        wall = Picture([(5, y, 1) for y in range(-9, 9)] + [(x, 0, 0) for x in range(1, 9)])
        for dx, dy in itertools.product([-3, 0, 1, 4, 5, 9], repeat=2):
            self.check(wall ^ SQUARE.moved(dx, dy) ^ SQUARE.moved(9, -9) ^ SQUARE.moved(-4, 4))

    def test_large_pictures(self):
        for picture in [DOTS, BOXES, COMB, Picture(all_edges(25, 30))]:
            self.check(picture)
        self.check(outline_of([(3 * x, 997 * (x % 2)) for x in range(300)]))

    def test_points_a_thousand_apart(self):
        for x, y in [(999, 0), (0, 1000), (999, 1000), (999, -1000)]:
            for dx, dy in [(0, 0), (FAR, -FAR), (-500, 77)]:
                self.check((ONE ^ ONE.moved(x, y)).moved(dx, dy))
        for x, y in [(999, 999), (999, 0), (-999, -999), (0, 999)]:
            self.check(SQUARE ^ SQUARE.moved(x, y))
        self.check(Picture([(x, 0, 0) for x in range(1000)]))
        self.check(Picture([(0, y, 1) for y in range(1000)]))

    def test_points_more_than_a_thousand_apart(self):
        cases = [ONE ^ ONE.moved(1000, 0), ONE ^ ONE.moved(0, 1001), ONE ^ ONE.moved(-1000, 3), ONE ^ ONE.moved(3, -1001),
                 SQUARE ^ SQUARE.moved(1000, 0), SQUARE ^ SQUARE.moved(0, 1000), SQUARE ^ SQUARE.moved(FAR, FAR),
                 Picture([(x, 0, 0) for x in range(1001)]), Picture([(0, y, 1) for y in range(1001)]), ROW, FAR_DOTS]
        for picture in cases:
            check_too_large(self, 1000, lambda: toggled_strokes(picture))
            check_too_large(self, 1000, lambda: toggled_strokes(picture.moved(FAR, -FAR)))
            check_too_large(self, 1000, lambda: toggled_strokes(picture.turned(1)))

    def test_the_others_are_not_too_large(self):
        for picture in [ROW, FAR_DOTS, SQUARE ^ SQUARE.moved(FAR, -FAR)]:
            strokes = plain_strokes(picture)
            self.assertEqual(len(strokes), fewest_plain(picture))
            self.assertIs(is_plain(picture, strokes), True)
            self.assertIs(is_toggled(picture, strokes), True)
            self.assertLessEqual(fewest_toggled(picture), fewest_plain(picture))

    def test_the_list_is_new(self):
        for edges in SETS[::20]:
            picture = Picture(edges)
            before = toggled_strokes(picture)
            changed = toggled_strokes(picture)
            changed.append("more")
            changed.reverse()
            self.assertEqual(toggled_strokes(picture), before)
            self.assertEqual(picture, Picture(edges))


class IsToggledTest(unittest.TestCase):
    def test_the_same_strokes_otherwise(self):
        for edges in SETS[::3]:
            picture = Picture(edges)
            strokes = toggled_strokes(picture)
            backward = [stroke[::-1] for stroke in strokes]
            there_and_back = [stroke + stroke[-2::-1] for stroke in strokes]
            for value in [backward, strokes[::-1], cut_in_two(strokes), strokes * 3, strokes + strokes + backward,
                          strokes + there_and_back, plain_strokes(picture), strokes + [((FAR, 0), (FAR, 1), (FAR, 0))]]:
                self.assertIs(is_toggled(picture, value), True)

    def test_other_strokes(self):
        for edges in [edges for edges in SETS if edges][::3]:
            picture = Picture(edges)
            strokes = toggled_strokes(picture)
            stroke = strokes[0]
            there_and_back = [row + row[-2::-1] for row in strokes]
            for value in [[], strokes * 2, there_and_back, strokes + [stroke[:2]], strokes + [((FAR, 0), (FAR, 1))],
                          [stroke[:-1]] + strokes[1:], [stroke + stroke[-2:-1]] + strokes[1:]]:
                self.assertIs(is_toggled(picture, value), False)

    def test_some(self):
        good = [[((0, 0), (1, 0))], [((1, 0), (0, 0), (1, 0), (0, 0))], [((0, 0), (1, 0), (2, 0), (1, 0))],
                [((0, 0), (1, 0))] * 3, [((0, 0), (1, 0)), ((4, 4), (4, 5), (4, 4))]]
        wrong = [[], [()], [((0, 0),)], [((0, 0), (1, 0)), ((0, 0),)], [((0, 0), (0, 0))], [((0, 0), (1, 0), (0, 0))],
                 [((0, 0), (1, 0))] * 2, [((0, 0), (1, 0), (2, 0))], [[(0, 0), (1, 0)]], (((0, 0), (1, 0)),),
                 [((0, 0), (1, 0)), ()], [((False, 0), (True, 0))], [((0, 0), (2, 0))], [((0, 0), (1, 0), (1, 0))]]
        for value in good:
            self.assertIs(is_toggled(ONE, value), True, value)
        for value in wrong:
            self.assertIs(is_toggled(ONE, value), False, value)

    def test_blank_pictures(self):
        for value in [[], [((0, 0), (1, 0), (0, 0))], [((0, 0), (1, 0)), ((1, 0), (0, 0))], [((0, 0), (1, 0))] * 4]:
            self.assertIs(is_toggled(BLANK, value), True)
        for value in [[()], [((0, 0),)], [((0, 0), (1, 0))], [((0, 0), (1, 0), (2, 0))], None, ()]:
            self.assertIs(is_toggled(BLANK, value), False)

    def test_stretches_draw_what_is_drawn(self):
        for text, pen in itertools.product(some_texts(44, 200), [True, False]):
            program = Program(text)
            picture, stretches = drawn(program, pen=pen), stretches_of(program, pen=pen)
            self.assertIs(is_toggled(picture, stretches), True, all_steps(text))
            once = all(number == 1 for _, number in passes_of(program, pen=pen))
            self.assertIs(is_plain(picture, stretches), once)
            if picture.edges:
                self.assertLessEqual(fewest_toggled(picture), len(stretches))


class FewestTest(unittest.TestCase):
    """That fewer strokes are not enough: all ways of up to two plain strokes in small pictures are tried."""

    def ways_on(self, point, left):
        """All strokes from a point that pass edges of a list, each at most once."""
        found = []
        for at, edge in enumerate(left):
            for one, other in [all_ends([edge]), all_ends([edge])[::-1]]:
                if one == point:
                    rest = left[:at] + left[at + 1:]
                    found.extend([[one, other]] + [[one] + way for way in self.ways_on(other, rest)])
        return found

    def test_one_plain_stroke_is_enough_exactly_then(self):
        for edges in all_sets(all_edges(2, 1))[1:]:
            longest = 0
            for start in set(all_ends(edges)):
                longest = max([longest] + [len(way) - 1 for way in self.ways_on(start, edges)])
            self.assertIs(fewest_plain(Picture(edges)) == 1, longest == len(edges))


class ErrorsTest(unittest.TestCase):
    def test_pictures(self):
        for good in [BLANK, ONE]:
            for call in [fewest_plain, plain_strokes, fewest_toggled, toggled_strokes]:
                check_errors(self, call, [(good, WRONG_PICTURES, InvalidPicture)])
            for call in [is_plain, is_toggled]:
                for value in [[], None, [((0, 0), (1, 0))]]:
                    check_errors(self, lambda picture: call(picture, value), [(good, WRONG_PICTURES, InvalidPicture)])


if __name__ == "__main__":
    unittest.main()
