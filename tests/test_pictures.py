"""Picture, is_edge, edge_between, drawn and passes_of."""

import itertools
import unittest

from helpers import (WRONG_EDGES, WRONG_POINTS, WRONG_POSES, WRONG_VALUES, Whole, all_steps, check_errors, check_too_large,
                     edge_of_ends, edges_passed, ends, nested, odd_ones, short_texts, some_texts)
from plotpens.errors import InvalidPicture, InvalidPoint, InvalidPose, InvalidProgram, InvalidTurn
from plotpens.pictures import Picture, drawn, edge_between, is_edge, passes_of
from plotpens.programs import Program

FAR = 10 ** 99
BLANK = Picture([])
SMALL = [(x, y, side) for x in range(2) for y in range(2) for side in range(2)]
SETS = [list(edges) for many in range(4) for edges in itertools.combinations(SMALL, many)] + [SMALL, SMALL[1:]]
SHIFTS = [(0, 0), (1, 0), (0, -1), (-3, 7), (FAR, -FAR), (-FAR - 5, 0)]
TEXTS = short_texts() + some_texts(11, 250)
STARTS = [(0, 0, 0), (3, -2, 1), (-7, 5, 2), (FAR, -FAR, 3)]
PENS = [True, False]


def turned_edges(edges, quarters):
    """The ascending tuple of edges that are turned point by point."""
    turns = {0: lambda x, y: (x, y), 1: lambda x, y: (-y, x), 2: lambda x, y: (-x, -y), 3: lambda x, y: (y, -x)}
    return tuple(sorted(edge_of_ends(*[turns[quarters](*point) for point in ends(edge)]) for edge in edges))


class PictureTest(unittest.TestCase):
    def test_edges_are_ascending(self):
        for edges in SETS:
            self.assertEqual(Picture(edges).edges, tuple(sorted(edges)))
            self.assertEqual(Picture(edges[::-1]).edges, tuple(sorted(edges)))
        for edges in itertools.permutations([(5, -1, 0), (-2, 3, 1), (-2, 3, 0), (FAR, 0, 1), (-FAR, FAR, 0)]):
            self.assertEqual(Picture(list(edges)).edges,
                             ((-FAR, FAR, 0), (-2, 3, 0), (-2, 3, 1), (5, -1, 0), (FAR, 0, 1)))

    def test_len(self):
        self.assertEqual([len(Picture(edges)) for edges in SETS], [len(edges) for edges in SETS])
        self.assertEqual(len(Picture([(x, 0, 0) for x in range(1600)])), 1600)

    def test_kinds(self):
        self.assertIs(type(BLANK.edges), tuple)
        self.assertEqual((BLANK.edges, len(BLANK)), ((), 0))
        self.assertEqual(Picture([(Whole(1), Whole(2), Whole(0))]), Picture([(1, 2, 0)]))

    def test_what_is_no_list_of_edges(self):
        wrong = WRONG_VALUES[:-1] + ["", "abc", (), ((0, 0, 0),), {(0, 0, 0)}, {(0, 0, 0): True}, (0, 0, 0), [[0, 0, 0]],
                                     [[(0, 0, 0)]], [((0, 0, 0),)], BLANK, [BLANK]]
        for value in wrong:
            with self.subTest(value=repr(value)), self.assertRaises(InvalidPicture):
                Picture(value)
        for value in WRONG_EDGES:
            for edges in [[value], [(0, 0, 0), value], [value, (0, 0, 1)], [(0, 0, 0), value, (0, 0, 0)]]:
                with self.subTest(edges=repr(edges)[:80]), self.assertRaises(InvalidPicture):
                    Picture(edges)

    def test_edges_that_stand_twice(self):
        for edges in SETS[1:]:
            for twice in [edges[:1], edges[-1:], edges]:
                with self.assertRaises(InvalidPicture):
                    Picture(edges + twice)

    def test_a_later_change_of_the_list_has_no_effect(self):
        edges = [(1, 0, 0), (0, 0, 0)]
        picture = Picture(edges)
        self.assertEqual(edges, [(1, 0, 0), (0, 0, 0)])
        edges.append((5, 5, 1))
        edges[0] = (7, 7, 0)
        self.assertEqual((picture.edges, len(picture)), (((0, 0, 0), (1, 0, 0)), 2))
        self.assertTrue((1, 0, 0) in picture)
        self.assertFalse((5, 5, 1) in picture or (7, 7, 0) in picture)

    def test_edges_cannot_be_assigned(self):
        picture = Picture([(0, 0, 0)])
        with self.assertRaises(AttributeError):
            picture.edges = ()
        self.assertEqual(picture.edges, ((0, 0, 0),))

    def test_in(self):
        for edges in SETS:
            picture = Picture(edges)
            for edge in SMALL + [(2, 0, 0), (0, -1, 1), (FAR, FAR, 0)]:
                self.assertIs(edge in picture, edge in edges)

    def test_in_with_any_value(self):
        full = Picture(SMALL)
        for value in WRONG_EDGES + [SMALL, full, (0, 0), ((0, 0, 0),)]:
            self.assertIs(value in full, False)
            self.assertIs(value in BLANK, False)
        self.assertIs((True, 0, 0) in full, False)
        self.assertIs((1, 0, False) in full, False)
        self.assertIs([1, 0, 0] in full, False)

    def test_equal(self):
        for one, two in itertools.product(SETS, SETS):
            self.assertIs(Picture(one) == Picture(two[::-1]), one == two)
            self.assertIs(Picture(one) != Picture(two[::-1]), one != two)

    def test_not_equal_to_other_values(self):
        for picture in [BLANK, Picture([(0, 0, 0)])]:
            for value in WRONG_VALUES[:-1] + [(), [], "", ((0, 0, 0),), [(0, 0, 0)], (0, 0, 0), Program("")]:
                self.assertIs(picture == value, False)
                self.assertIs(picture != value, True)


class OperatorTest(unittest.TestCase):
    def test_edges_in_exactly_one(self):
        for one, two in itertools.product(SETS[::3], SETS[::4] + [SMALL]):
            found = Picture(one) ^ Picture(two)
            self.assertEqual(found.edges, tuple(odd_ones(one + two)))
            self.assertEqual(found ^ Picture(two), Picture(one))

    def test_of_some(self):
        one = Picture([(0, 0, 0), (FAR, 0, 1)])
        self.assertEqual(one ^ BLANK, one)
        self.assertEqual(one ^ one, BLANK)
        self.assertEqual((one ^ Picture([(FAR, 0, 1), (-FAR, 2, 0)])).edges, ((-FAR, 2, 0), (0, 0, 0)))
        self.assertEqual(one.edges, ((0, 0, 0), (FAR, 0, 1)))

    def test_of_large_ones(self):
        one, two = Picture([(x, 0, 0) for x in range(3000)]), Picture([(x, 0, 0) for x in range(1000, 5000)])
        self.assertEqual((one ^ two).edges, tuple((x, 0, 0) for x in range(5000) if x < 1000 or x >= 3000))

    def test_of_other_values(self):
        for value in WRONG_VALUES[:-1] + [[], [(0, 0, 0)], (), Program("f")]:
            with self.assertRaises(InvalidPicture):
                BLANK ^ value


class MovedTest(unittest.TestCase):
    def test_moved(self):
        for edges, (dx, dy) in itertools.product(SETS, SHIFTS):
            picture = Picture(edges)
            expected = sorted((x + dx, y + dy, side) for x, y, side in edges)
            self.assertEqual(picture.moved(dx, dy).edges, tuple(expected))
            self.assertEqual(picture.edges, tuple(sorted(edges)))
            self.assertEqual(picture.moved(dx, dy).moved(-dx, -dy), picture)

    def test_moved_by_no_point(self):
        for wrong in [None, True, False, "1", b"1", [1], (1,), {1: 1}, BLANK, len]:
            for values in [(wrong, 0), (0, wrong), (wrong, wrong)]:
                for picture in [BLANK, Picture([(0, 0, 0)])]:
                    with self.subTest(values=repr(values)), self.assertRaises(InvalidPoint):
                        picture.moved(*values)

    def test_turned(self):
        far = [(FAR, -FAR, 0), (-FAR, 3, 1), (-1, -1, 0), (-4, 5, 1), (6, -7, 1)]
        for edges, quarters in itertools.product(SETS + [far], range(4)):
            self.assertEqual(Picture(edges).turned(quarters).edges, turned_edges(edges, quarters))

    def test_turned_several_times(self):
        for edges in SETS:
            picture = Picture(edges)
            for one, two in itertools.product(range(4), range(4)):
                self.assertEqual(picture.turned(one).turned(two), picture.turned((one + two) % 4))
            self.assertEqual(picture.edges, tuple(sorted(edges)))

    def test_no_number_of_quarters(self):
        for wrong in [-1, 4, 5, 10 ** 99, -10 ** 99, None, True, False, "1", b"1", [1], (1,), {1: 1}, BLANK, len]:
            for picture in [BLANK, Picture([(0, 0, 0)])]:
                with self.subTest(wrong=repr(wrong)), self.assertRaises(InvalidTurn):
                    picture.turned(wrong)


class EdgeTest(unittest.TestCase):
    def test_is_edge(self):
        for value in SMALL + [(FAR, -FAR, 0), (-FAR, 0, 1), (Whole(3), 0, Whole(1))]:
            self.assertIs(is_edge(value), True)
        for value in WRONG_EDGES + [BLANK, Program("f")]:
            self.assertIs(is_edge(value), False)

    def test_edge_between_neighbours(self):
        for (x, y), (dx, dy) in itertools.product([(0, 0), (-1, -1), (5, -3), (FAR, -FAR)], SHIFTS):
            for side in range(2):
                edge = (x + dx, y + dy, side)
                one, two = ends(edge)
                self.assertEqual(edge_between(one, two), edge)
                self.assertEqual(edge_between(two, one), edge)

    def test_edge_between_others(self):
        near = list(itertools.product(range(-3, 4), repeat=2))
        for x, y in [(0, 0), (7, -7), (FAR, FAR)]:
            for dx, dy in near:
                found = edge_between((x, y), (x + dx, y + dy))
                if abs(dx) + abs(dy) == 1:
                    self.assertEqual(set(ends(found)), {(x, y), (x + dx, y + dy)})
                else:
                    self.assertIsNone(found)
        self.assertIsNone(edge_between((0, 0), (FAR, 0)))
        self.assertIsNone(edge_between((0, FAR), (0, -FAR)))

    def test_what_is_no_point(self):
        check_errors(self, edge_between, [((0, 0), WRONG_POINTS, InvalidPoint), ((1, 0), WRONG_POINTS, InvalidPoint)])


class DrawnTest(unittest.TestCase):
    def check(self, text, **values):
        passed = edges_passed(all_steps(text), **values)
        program = Program(text)
        self.assertEqual(drawn(program, **values).edges, tuple(odd_ones(passed)))
        self.assertEqual(passes_of(program, **values), [(edge, passed.count(edge)) for edge in sorted(set(passed))])

    def test_against_the_steps(self):
        for text in TEXTS:
            self.check(text)

    def test_pen_up_at_first(self):
        for text, pen in itertools.product(TEXTS, PENS):
            self.check(text, pen=pen)

    def test_from_another_start(self):
        for text, start, pen in itertools.product(TEXTS[::4], STARTS, PENS):
            self.check(text, start=start, pen=pen)

    def test_all_short_rows_of_moves(self):
        for many in range(6):
            for letters in itertools.product("fbl", repeat=many):
                self.check(" ".join(letters))

    def test_passed_several_times(self):
        cases = [("f b", [], [((0, 0, 0), 2)]), ("f b f", [(0, 0, 0)], [((0, 0, 0), 3)]),
                 ("( f l )8", [], [((0, 0, 0), 2), ((0, 0, 1), 2), ((0, 1, 0), 2), ((1, 0, 1), 2)]),
                 ("( f l )12", [(0, 0, 0), (0, 0, 1), (0, 1, 0), (1, 0, 1)],
                  [((0, 0, 0), 3), ((0, 0, 1), 3), ((0, 1, 0), 3), ((1, 0, 1), 3)]),
                 ("f u b d f2", [(1, 0, 0)], [((0, 0, 0), 2), ((1, 0, 0), 1)]), ("b l b", [(-1, -1, 1), (-1, 0, 0)],
                                                                                [((-1, -1, 1), 1), ((-1, 0, 0), 1)]),
                 ("f l2 f l2 f", [(0, 0, 0)], [((0, 0, 0), 3)]), ("u f5 l f", [], []), ("", [], [])]
        for text, edges, passes in cases:
            self.assertEqual(drawn(Program(text)), Picture(edges))
            self.assertEqual(passes_of(Program(text)), passes)

    def test_the_table_of_programs(self):
        cases = [("f l f2 r", [(0, 0, 0), (1, 0, 1), (1, 1, 1)]),
                 ("( f l )4", [(0, 0, 0), (0, 0, 1), (0, 1, 0), (1, 0, 1)]), ("f2 b", [(0, 0, 0)]), ("u f d f", [(1, 0, 0)])]
        for text, edges in cases:
            self.assertEqual(drawn(Program(text)).edges, tuple(edges))

    def test_results_are_new(self):
        program = Program("( f l )2")
        passes_of(program).clear()
        self.assertEqual(passes_of(program), [((0, 0, 0), 1), ((1, 0, 1), 1)])
        self.assertEqual((program.text, program.length), ("( f l )2", 4))
        self.assertIs(type(drawn(program)), Picture)
        for item in passes_of(program):
            self.assertIs(type(item), tuple)


class LimitsTest(unittest.TestCase):
    def test_a_thousand_steps(self):
        self.assertEqual(drawn(Program("f1000")), Picture([(x, 0, 0) for x in range(1000)]))
        self.assertEqual(passes_of(Program("( f b )500")), [((0, 0, 0), 1000)])
        self.assertEqual(drawn(Program("( f b )499 l f")).edges, ((0, 0, 1),))

    def test_more_steps(self):
        for text in ["f1001", "( f b )500 u", nested(12, "f", 10 ** 30), "u1001"]:
            program = Program(text)
            check_too_large(self, 1000, lambda: drawn(program))
            check_too_large(self, 1000, lambda: passes_of(program, start=(1, 1, 1), pen=False))

    def test_errors_of_parameters_come_first(self):
        programs = WRONG_VALUES + ["f", BLANK, Picture([(0, 0, 0)])]
        for call in [lambda program, start: drawn(program, start=start),
                     lambda program, start: passes_of(program, start=start, pen=False)]:
            for good in [Program("f l"), Program("f1000")]:
                check_errors(self, call, [(good, programs, InvalidProgram), ((1, 2, 3), WRONG_POSES, InvalidPose)])
            for wrong in WRONG_POSES:
                with self.assertRaises(InvalidPose):
                    call(Program("f1001"), wrong)


if __name__ == "__main__":
    unittest.main()
