"""count_edges, count_passed, count_odd, strokes_after, faces_after, has_edge, passes_at, picture_after, rounds_passing."""

import unittest

from helpers import (CLOSING, DRIFTING, WRONG_EDGES, WRONG_VALUES, all_ends, all_steps, check_errors, check_too_large,
                     drawn_in_rounds, ends, nested, odd_ones, passed_in_rounds, some_texts, toggled)
from plotpens.errors import InvalidEdge, InvalidProgram, InvalidTimes, NotDrifting, NotEven
from plotpens.far import (count_edges, count_odd, count_passed, faces_after, has_edge, passes_at, picture_after, rounds_passing,
                          strokes_after)
from plotpens.faces import count_inside
from plotpens.motions import motion_of
from plotpens.odds import is_even, odd_points
from plotpens.pictures import Picture, drawn
from plotpens.programs import Program
from plotpens.strokes import fewest_toggled

MOST = 10 ** 30
ALL = DRIFTING + CLOSING
RANDOM = some_texts(141, 60, 10)
WRONG_TIMES = WRONG_VALUES[:3] + WRONG_VALUES[5:] + ["", "1", -1, MOST + 1, [1], (1,), [], ()]
WRONG_PROGRAMS = WRONG_VALUES + ["f", "", ["f"], (), [Program("f")], (Program("f"),), drawn(Program("f"))]
LONG = Program("f1001")


def drifts(text):
    return motion_of(Program(text)).order() is None


def odd_number(edges):
    return len(toggled(all_ends(edges)))


def far_value(values, times):
    """The value that a row of values, which ends in steps of equal size, would have at a far place."""
    return values[-1] + (values[-1] - values[-2]) * (times - len(values) + 1)


class FewRoundsTest(unittest.TestCase):
    def test_against_rounds_step_by_step(self):
        for text in ALL + RANDOM:
            program, steps = Program(text), all_steps(text)
            rounds = passed_in_rounds(steps, 12)
            for times in range(13):
                passed = [edge for edges in rounds[:times] for edge in edges]
                edges = toggled(passed)
                with self.subTest(text=text, times=times):
                    self.assertEqual(count_edges(program, times), len(edges))
                    self.assertEqual(count_passed(program, times), len(set(passed)))
                    self.assertEqual(count_odd(program, times), odd_number(edges))
                    self.assertEqual(picture_after(program, times), Picture(sorted(edges)))

    def test_forty_rounds(self):
        for text in ALL:
            program, rounds = Program(text), passed_in_rounds(all_steps(text), 40)
            passed = []
            for times in range(41):
                edges = toggled(passed)
                self.assertEqual([count_edges(program, times), count_passed(program, times), count_odd(program, times)],
                                 [len(edges), len(set(passed)), odd_number(edges)], text)
                passed = passed + rounds[times] if times < 40 else passed

    def test_strokes_and_faces(self):
        for text in ALL + RANDOM:
            program, steps = Program(text), all_steps(text)
            for times in [0, 1, 2, 3, 4, 5, 8, 11]:
                picture = Picture(sorted(drawn_in_rounds(steps, times)))
                with self.subTest(text=text, times=times):
                    self.assertEqual(strokes_after(program, times), fewest_toggled(picture))
                    if odd_points(picture):
                        self.assertRaises(NotEven, faces_after, program, times)
                    else:
                        self.assertEqual(faces_after(program, times), count_inside(picture))

    def test_single_edges(self):
        for text in ALL + RANDOM[:20]:
            program, steps = Program(text), all_steps(text)
            for times in [0, 1, 2, 3, 7, 10]:
                passed = [edge for edges in passed_in_rounds(steps, times) for edge in edges]
                for edge in sorted(set(passed))[:9] + [(x, y, times % 2) for x in range(-2, 3) for y in range(-1, 2)]:
                    self.assertEqual(passes_at(program, edge, times), passed.count(edge))
                    self.assertIs(has_edge(program, edge, times), passed.count(edge) % 2 == 1)

    def test_rounds_passing(self):
        for text in DRIFTING + [text for text in RANDOM if drifts(text)]:
            program, rounds = Program(text), passed_in_rounds(all_steps(text), 40)
            for edge in [(x, y, side) for x in range(-7, 9) for y in range(-4, 5) for side in [0, 1]]:
                numbers = [number for number, edges in enumerate(rounds) if edge in edges]
                self.assertEqual(rounds_passing(program, edge), numbers, (text, edge))

    def test_the_pen_is_put_down_in_each_round(self):
        self.assertEqual(picture_after(Program("f u f"), 3), Picture([(0, 0, 0), (2, 0, 0), (4, 0, 0)]))
        self.assertEqual(count_edges(Program("f u"), 10), 10)
        self.assertEqual(count_edges(Program("u f d"), 10), 0)
        self.assertEqual(count_edges(Program("u f"), 10), 0)
        self.assertEqual(count_edges(Program("u f l"), 10), 0)
        self.assertEqual(count_edges(Program("f l u"), 3), 3)

    def test_rounds_that_close_begin_again(self):
        for text in CLOSING:
            program = Program(text)
            order = motion_of(program).order()
            for times in range(2 * order + 3):
                for more in [2 * order, 6 * order, 2 * order * 10 ** 20]:
                    self.assertEqual(picture_after(program, times), picture_after(program, times + more))
            self.assertEqual(len(picture_after(program, 2 * order)), 0)

    def test_all_orders_occur(self):
        self.assertEqual({motion_of(Program(text)).order() for text in CLOSING}, {1, 2, 4})
        self.assertEqual({motion_of(Program(text)).order() for text in DRIFTING}, {None})


class ManyRoundsTest(unittest.TestCase):
    def test_counts_of_rounds_that_drift(self):
        # From some number on, each further round adds the same number to every count.
        for text in DRIFTING:
            program, steps = Program(text), all_steps(text)
            rounds = passed_in_rounds(steps, 41)
            passed, left, edges, seen, odd = [], set(), [0], [0], [0]
            for some in rounds:
                passed, left = passed + some, left ^ toggled(some)
                edges.append(len(left))
                seen.append(len(set(passed)))
                odd.append(odd_number(left))
            for times in [10 ** 12, MOST - 1, MOST]:
                with self.subTest(text=text, times=times):
                    self.assertEqual(count_edges(program, times), far_value(edges, times))
                    self.assertEqual(count_passed(program, times), far_value(seen, times))
                    self.assertEqual(count_odd(program, times), far_value(odd, times))
                    strokes = 0 if far_value(edges, times) == 0 else max(1, far_value(odd, times) // 2)
                    self.assertEqual(strokes_after(program, times), strokes)

    def test_faces_of_rounds_that_drift(self):
        even = [text for text in DRIFTING + [text for text in some_texts(142, 600, 9) if drifts(text)]
                if is_even(drawn(Program(text)))]
        self.assertGreater(len(even), 20)
        for text in even:
            program, steps = Program(text), all_steps(text)
            faces = [count_inside(Picture(sorted(drawn_in_rounds(steps, times)))) for times in [0, 1, 2, 3, 24, 25]]
            self.assertEqual([faces_after(program, times) for times in [0, 1, 2, 3, 24, 25]], faces)
            for times in [10 ** 12, MOST]:
                self.assertEqual(faces_after(program, times), faces[-1] + (faces[-1] - faces[-2]) * (times - 25))

    def test_counts_by_classes(self):
        # The tests' own classes: a row of marks for each class, one for each round that passes there.
        for text in DRIFTING:
            program = Program(text)
            dx, dy = motion_of(program).shift
            passed = [edge for edges in passed_in_rounds(all_steps(text), 1) for edge in edges]
            rows = {}
            for x, y, side in passed:
                at = x // dx if dx else y // dy
                rows.setdefault((x - at * dx, y - at * dy, side), []).append(at)
            for times in [5, 10 ** 6, MOST]:
                total, some = 0, 0
                for places in rows.values():
                    ends_of_places = sorted({place for at in places for place in [at, at + times]})
                    for left, right in zip(ends_of_places, ends_of_places[1:]):
                        depth = len([at for at in places if at <= left < at + times])
                        total += (right - left) * (depth % 2)
                        some += (right - left) * (depth > 0)
                self.assertEqual(count_edges(program, times), total)
                self.assertEqual(count_passed(program, times), some)

    def test_edges_of_the_first_the_last_and_drawn_rounds(self):
        for text in DRIFTING:
            program = Program(text)
            dx, dy = motion_of(program).shift
            first = drawn_in_rounds(all_steps(text), 1)
            rows = passed_in_rounds(all_steps(text), 40)
            for times in [MOST, MOST - 1]:
                for number in [0, 1, 2, 3]:
                    for x, y, side in first:
                        near = (x + number * dx, y + number * dy, side)
                        many = sum(edges.count(near) for edges in rows)
                        self.assertEqual(passes_at(program, near, times), many)
                        self.assertIs(has_edge(program, near, times), many % 2 == 1)

    def test_the_last_rounds_are_as_the_first_ones_backwards(self):
        # Rounds seen from the far end drift the other way: what is passed there is told by the turned number.
        for text in DRIFTING:
            program = Program(text)
            dx, dy = motion_of(program).shift
            rounds = passed_in_rounds(all_steps(text), 40)
            passed = [edge for edges in rounds for edge in edges]
            for x, y, side in set(rounds[39] + rounds[37]):
                far = (x + (MOST - 40) * dx, y + (MOST - 40) * dy, side)
                if all(edges.count((x, y, side)) == 0 for edges in rounds[:8]):
                    self.assertEqual(passes_at(program, far, MOST), passed.count((x, y, side)))
                    numbers = [number + MOST - 40 for number, edges in enumerate(rounds) if (x, y, side) in edges]
                    self.assertEqual([number for number in rounds_passing(program, far) if number < MOST], numbers)

    def test_counts_of_rounds_that_close(self):
        for text in CLOSING:
            program, steps = Program(text), all_steps(text)
            order = motion_of(program).order()
            for more in [0, 1, 2, 3, 5]:
                for base in [0, 2 * order, 8 * 10 ** 29]:
                    few = [edge for edges in passed_in_rounds(steps, more) for edge in edges]
                    times = base + more
                    self.assertEqual(count_edges(program, times), len(toggled(few)))
                    self.assertEqual(count_odd(program, times), odd_number(toggled(few)))
                    once = [edge for edges in passed_in_rounds(steps, order) for edge in edges]
                    self.assertEqual(count_passed(program, times), len(set(once if base else few)))
                    for edge in set(once):
                        many = base // order * once.count(edge) + few.count(edge)
                        self.assertEqual(passes_at(program, edge, times), many)
                        self.assertIs(has_edge(program, edge, times), many % 2 == 1)

    def test_edges_that_no_round_passes(self):
        for text in ALL:
            for edge in [(50, 51, 0), (-10 ** 99, 10 ** 99, 1), (10 ** 99, 7, 0)]:
                self.assertEqual(passes_at(Program(text), edge, 40), 0)
                self.assertIs(has_edge(Program(text), edge, 40), False)

    def test_far_edges(self):
        stair = Program("f l f2 r")
        self.assertEqual(rounds_passing(stair, (10 ** 40, 2 * 10 ** 40, 0)), [10 ** 40])
        self.assertEqual(rounds_passing(stair, (-1, -2, 0)), [])
        for number in [0, 1, 10 ** 12, MOST - 1]:
            self.assertEqual(has_edge(stair, (number, 2 * number, 0), MOST), True)
            self.assertEqual(has_edge(stair, (number, 2 * number, 0), number), False)
            self.assertEqual(has_edge(stair, (number, 2 * number, 0), number + 1), True)
            self.assertEqual(has_edge(stair, (number, 2 * number + 1, 0), MOST), False)
        self.assertEqual(passes_at(Program("f l"), (0, 0, 0), MOST), MOST // 4)
        self.assertEqual(passes_at(Program("f l f l f l f l"), (0, 0, 0), MOST), MOST)
        self.assertEqual(passes_at(Program("( f b )500"), (0, 0, 0), MOST), 1000 * MOST)

    def test_some_strokes(self):
        self.assertEqual(strokes_after(Program("f b f b"), MOST), 0)
        self.assertEqual(strokes_after(Program("f b f"), MOST), 1)
        self.assertEqual(strokes_after(Program("( f l )4 u f3"), MOST), 1)
        self.assertEqual(strokes_after(Program("( f l )4"), MOST), 0)
        self.assertEqual(strokes_after(Program("( f l )4"), MOST - 1), 1)
        self.assertEqual(strokes_after(Program("f u f"), MOST), MOST)


class LargeTest(unittest.TestCase):
    def test_a_thousand_steps(self):
        row = Program("f1000")
        self.assertEqual([count_edges(row, MOST), count_passed(row, MOST), count_odd(row, MOST)], [1000 * MOST, 1000 * MOST, 2])
        comb = Program("( f u f d )250")
        self.assertEqual([count_edges(comb, MOST), count_odd(comb, MOST), strokes_after(comb, MOST)],
                         [250 * MOST, 500 * MOST, 250 * MOST])
        back = Program("f501 b499")
        self.assertEqual([count_edges(back, times) for times in [1, 2, MOST]], [2, 4, 2 * MOST])
        self.assertEqual(count_passed(back, MOST), 2 * MOST + 499)
        self.assertEqual(passes_at(back, (10 ** 20, 0, 0), MOST), 501)
        self.assertEqual(len(rounds_passing(back, (10 ** 20, 0, 0))), 251)
        boxes = Program("( f249 l )3 f249")
        self.assertEqual([count_edges(boxes, times) for times in [1, 4, 5, 8, MOST]], [996, 1992, 1992, 0, 0])
        field = Program("( f240 l )4 u f")
        self.assertEqual([faces_after(field, times) for times in [1, 2, 3, 241]], [57600, 480, 57600, 57600])
        self.assertEqual(faces_after(field, MOST), 57600)
        turn = Program("f999 l")
        self.assertEqual([count_edges(turn, times) for times in [1, 3, 4, 5, 7, 8, MOST + 0]],
                         [999, 2997, 3996, 2997, 999, 0, count_edges(turn, MOST % 8)])

    def test_most_edges_of_a_picture(self):
        self.assertEqual(len(picture_after(Program("f1000"), 4)), 4000)
        check_too_large(self, 4000, lambda: picture_after(Program("f1000"), 5))
        ten = Program("f10")
        self.assertEqual(picture_after(ten, 400), Picture([(x, 0, 0) for x in range(4000)]))
        one = Program("f")
        self.assertEqual(len(picture_after(one, 4000)), 4000)
        check_too_large(self, 4000, lambda: picture_after(one, 4001))
        check_too_large(self, 4000, lambda: picture_after(one, MOST))
        check_too_large(self, 4000, lambda: picture_after(Program("f l f2 r"), 1334))
        self.assertEqual(len(picture_after(Program("f l f2 r"), 1333)), 3999)
        self.assertEqual(len(picture_after(Program("f999 l"), 4)), 3996)

    def test_small_pictures_of_many_rounds(self):
        boxes = Program("( f2 l )4 u f")
        edges = picture_after(boxes, MOST).edges
        self.assertEqual(len(edges), 12)
        self.assertEqual((edges[0], edges[-1]), ((0, 0, 0), (MOST + 1, 1, 1)))
        self.assertEqual(count_inside(picture_after(boxes, MOST)), faces_after(boxes, MOST))
        self.assertEqual(picture_after(Program("( f l )4"), MOST - 1), drawn(Program("( f l )4")))


class ErrorsTest(unittest.TestCase):
    def test_program_and_times(self):
        for call in [count_edges, count_passed, count_odd, strokes_after, faces_after, picture_after]:
            check_errors(self, call, [(Program("( f l )4"), WRONG_PROGRAMS, InvalidProgram), (3, WRONG_TIMES, InvalidTimes)])
            check_too_large(self, 1000, lambda: call(LONG, 1))
            check_too_large(self, 1000, lambda: call(LONG, 0))
            check_too_large(self, 1000, lambda: call(Program(nested(12, "f", MOST)), MOST))
            self.assertRaises(InvalidTimes, call, LONG, -1)

    def test_program_edge_and_times(self):
        for call in [has_edge, passes_at]:
            check_errors(self, call, [(Program("f"), WRONG_PROGRAMS, InvalidProgram), ((0, 0, 0), WRONG_EDGES, InvalidEdge),
                                      (3, WRONG_TIMES, InvalidTimes)])
            check_too_large(self, 1000, lambda: call(LONG, (0, 0, 0), 1))
            self.assertRaises(InvalidEdge, call, LONG, (0, 0, 2), 1)
            self.assertRaises(InvalidTimes, call, LONG, (0, 0, 1), MOST + 1)

    def test_rounds_passing(self):
        check_errors(self, rounds_passing, [(Program("f"), WRONG_PROGRAMS, InvalidProgram), ((0, 0, 0), WRONG_EDGES, InvalidEdge)])
        for text in CLOSING:
            self.assertRaises(NotDrifting, rounds_passing, Program(text), (0, 0, 0))
        check_too_large(self, 1000, lambda: rounds_passing(Program("f1000 l"), (0, 0, 0)))
        check_too_large(self, 1000, lambda: rounds_passing(LONG, (0, 0, 0)))
        self.assertRaises(InvalidEdge, rounds_passing, LONG, (0, 0))
        self.assertRaises(NotDrifting, rounds_passing, Program("f999 l"), (0, 0, 0))
        self.assertEqual(rounds_passing(Program("f1000"), (5000, 0, 0)), [5])

    def test_odd_pictures(self):
        for text in ["f", "f l f2 r", "f l", "u f d f", "( f l )4 f", "( f l )3"]:
            self.assertEqual(faces_after(Program(text), 0), 0)
            self.assertRaises(NotEven, faces_after, Program(text), 1)
        for text in ["f", "f l f2 r", "u f d f", "( f l )4 f"]:
            for times in [2, 3, 4, 8, MOST]:
                self.assertRaises(NotEven, faces_after, Program(text), times)
        self.assertEqual([faces_after(Program("f l"), times) for times in [4, 8, 12, MOST]], [1, 0, 1, 0])
        for times in [1, 2, 3, 5, 6, 7, MOST - 1]:
            self.assertRaises(NotEven, faces_after, Program("f l"), times)
        check_too_large(self, 1000, lambda: faces_after(LONG, 1))

    def test_returned_lists_are_new(self):
        program = Program("f2 b")
        rounds_passing(program, (3, 0, 0)).append(7)
        self.assertEqual(rounds_passing(program, (3, 0, 0)), [2, 3])

    def test_kinds_of_values(self):
        for text in ["f2 b", "( f l )4", "f b f", ""]:
            program = Program(text)
            for value in [count_edges(program, 2), count_passed(program, 2), count_odd(program, 2), strokes_after(program, 2),
                          passes_at(program, (0, 0, 0), 2)]:
                self.assertIs(type(value), int)
            self.assertIs(type(has_edge(program, (0, 0, 0), 1)), bool)
            self.assertIs(type(picture_after(program, 1)), Picture)
        self.assertIs(type(rounds_passing(Program("f"), (0, 0, 0))), list)
        self.assertIs(type(faces_after(Program("( f l )4 u f"), 5)), int)

    def test_ends_of_helpers(self):
        self.assertEqual(odd_ones(all_ends([(0, 0, 0), (1, 0, 0)])), [ends((0, 0, 0))[0], (2, 0)])


if __name__ == "__main__":
    unittest.main()
