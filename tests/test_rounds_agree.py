"""What holds of many rounds together with strokes, faces, odd points, intervals and programs written otherwise."""

import unittest

from helpers import CLOSING, DRIFTING, some_texts
from plotpens.errors import HasPen
from plotpens.faces import count_inside, inside_of, is_inside, outline_of
from plotpens.far import (count_edges, count_odd, count_passed, faces_after, has_edge, passes_at, picture_after, rounds_passing,
                          strokes_after)
from plotpens.growth import growth_of, times_for, times_with
from plotpens.motions import motion_of, pose_after
from plotpens.odds import ends_of, is_even, odd_points
from plotpens.paths import stretches_of
from plotpens.pictures import Picture, drawn, passes_of
from plotpens.programs import Program, written
from plotpens.spans import covered, depth_at, odd_covered
from plotpens.strokes import fewest_toggled, is_toggled, plain_strokes, toggled_strokes
from plotpens.writing import packed, program_for

MOST = 10 ** 30
TEXTS = DRIFTING + CLOSING + some_texts(161, 50, 8)
PUT_DOWN = Program("d")


def is_drifting(program):
    return motion_of(program).order() is None


class FewRoundsTest(unittest.TestCase):
    def test_rounds_are_a_longer_program(self):
        for text in TEXTS:
            program = PUT_DOWN + Program(text)
            for times in [0, 1, 2, 3, 6]:
                self.assertEqual(picture_after(Program(text), times), drawn(program * times))
                self.assertEqual(count_passed(Program(text), times), len(passes_of(program * times)))
                self.assertEqual(count_odd(Program(text), times), len(ends_of(program * times)))
                for edge, number in passes_of(program * times):
                    self.assertEqual(passes_at(Program(text), edge, times), number)
                    self.assertIs(has_edge(Program(text), edge, times), edge in drawn(program * times))

    def test_one_round_behind_the_other(self):
        for text in TEXTS:
            program = Program(text)
            picture = Picture([])
            for number in range(6):
                x, y, turn = pose_after(program * number, number * program.length)
                picture = picture ^ drawn(program).turned(turn).moved(x, y)
                self.assertEqual(picture_after(program, number + 1), picture)

    def test_rounds_from_elsewhere(self):
        for text in TEXTS:
            program = PUT_DOWN + Program(text)
            for x, y, heading in [(3, -5, 0), (-2, 7, 1), (10 ** 60, 4, 2), (0, -10 ** 60, 3)]:
                self.assertEqual(drawn(program * 3, start=(x, y, heading), pen=False),
                                 picture_after(Program(text), 3).turned(heading).moved(x, y))

    def test_drawn_again(self):
        for text in TEXTS:
            for times in [1, 2, 5]:
                picture = picture_after(Program(text), times)
                strokes = toggled_strokes(picture)
                self.assertEqual(len(strokes), strokes_after(Program(text), times))
                self.assertIs(is_toggled(picture, strokes), True)
                self.assertGreaterEqual(len(plain_strokes(picture)), len(strokes))
                if len(picture) <= 40:
                    again = program_for(picture)
                    self.assertEqual(drawn(again, pen=False), picture)
                    self.assertEqual(len(stretches_of(again, pen=False)), strokes_after(Program(text), times))

    def test_odd_points_and_faces(self):
        for text in TEXTS:
            for times in [1, 2, 4, 7]:
                picture = picture_after(Program(text), times)
                self.assertEqual(count_odd(Program(text), times), len(odd_points(picture)))
                self.assertEqual(strokes_after(Program(text), times), fewest_toggled(picture))
                if is_even(picture):
                    self.assertEqual(faces_after(Program(text), times), count_inside(picture))
                    self.assertEqual(outline_of(inside_of(picture)), picture)
                    self.assertTrue(all(is_inside(picture, face) for face in inside_of(picture)))


class ManyRoundsTest(unittest.TestCase):
    def test_in_groups(self):
        for text in TEXTS[::2]:
            program = Program(text)
            for size in [2, 3, 4]:
                group = (PUT_DOWN + program) * size
                for times in [0, 1, 5, MOST // size]:
                    self.assertEqual(count_edges(group, times), count_edges(program, size * times))
                    self.assertEqual(count_passed(group, times), count_passed(program, size * times))
                    self.assertEqual(count_odd(group, times), count_odd(program, size * times))
                    self.assertEqual(strokes_after(group, times), strokes_after(program, size * times))
                    for edge in picture_after(program, 1).edges[:3]:
                        self.assertEqual(passes_at(group, edge, times), passes_at(program, edge, size * times))

    def test_packed_and_in_other_parts(self):
        for text in TEXTS:
            program = Program(text)
            for other in [packed(program), PUT_DOWN + program, Program("l4") + program, Program(" ".join(written(program)))]:
                for times in [1, 3, MOST]:
                    self.assertEqual(count_edges(other, times), count_edges(program, times))
                    self.assertEqual(count_odd(other, times), count_odd(program, times))
                    self.assertEqual(count_passed(other, times), count_passed(program, times))
                self.assertEqual(picture_after(other, 4), picture_after(program, 4))

    def test_mirrored(self):
        for text in TEXTS:
            program = Program(text)
            for times in [1, 2, 3, MOST - 1, MOST]:
                self.assertEqual(count_edges(-program, times), count_edges(program, times))
                self.assertEqual(count_passed(-program, times), count_passed(program, times))
                self.assertEqual(strokes_after(-program, times), strokes_after(program, times))
            mirror = [(x, -y if side == 0 else -y - 1, side) for x, y, side in picture_after(program, 5).edges]
            self.assertEqual(picture_after(-program, 5), Picture(mirror))

    def test_backwards(self):
        for text in TEXTS:
            program = Program(text)
            if "u" in program or "d" in program:
                self.assertRaises(HasPen, lambda: ~program)
                continue
            for times in [1, 2, 3, 9, 10 ** 12, MOST]:
                self.assertEqual(count_edges(~program, times), count_edges(program, times))
                self.assertEqual(count_passed(~program, times), count_passed(program, times))
                self.assertEqual(count_odd(~program, times), count_odd(program, times))
            x, y, turn = pose_after(program * 3, 3 * program.length)
            self.assertEqual(picture_after(~program, 3).turned(turn).moved(x, y), picture_after(program, 3))

    def test_there_and_back(self):
        for text in TEXTS:
            program = Program(text)
            if "u" not in program and "d" not in program:
                for times in [0, 1, 2, MOST]:
                    self.assertEqual(count_edges(program + ~program, times), 0)
                    self.assertEqual(count_edges(program + ~program + program, times), count_edges(program, times))

    def test_without_lifting(self):
        # Without lifting there are never more than two odd points, so one stroke is enough.
        for text in TEXTS:
            program = Program(text)
            if "u" not in program:
                for times in [0, 1, 2, 3, 4, 5, MOST]:
                    self.assertIn(count_odd(program, times), [0, 2])
                    self.assertEqual(strokes_after(program, times), min(1, count_edges(program, times)))

    def test_rounds_as_intervals(self):
        for text in ["f", "f2 b", "f3 b2", "f u f d b2 f", "f5 b4", "f u f4 d f2 b6"]:
            program = Program(text)
            self.assertEqual(motion_of(program).shift, (1, 0), text)
            for times in [1, 2, 5, 10 ** 12, MOST]:
                intervals = [(x, x + times) for (x, _, _), number in passes_of(program) for _ in range(number)]
                self.assertEqual(count_passed(program, times), covered(intervals))
                self.assertEqual(count_edges(program, times), odd_covered(intervals))
                for x in [-1, 0, 1, 2, 3, 5, times - 1, times, times + 1, times + 4]:
                    self.assertEqual(passes_at(program, (x, 0, 0), times), depth_at(intervals, x))

    def test_passes_and_rounds_passing(self):
        for text in TEXTS:
            program = Program(text)
            if is_drifting(program):
                passed = passes_of(PUT_DOWN + program)
                for edge, number in passed:
                    numbers = rounds_passing(program, edge)
                    self.assertEqual(numbers[0], 0)
                    for later in numbers:
                        more = passes_at(program, edge, later + 1) - passes_at(program, edge, later)
                        self.assertGreater(more, 0)
                    self.assertEqual(passes_at(program, edge, 1), number)

    def test_growth_and_counts(self):
        for text in TEXTS:
            program = Program(text)
            if is_drifting(program):
                each, extra, least = growth_of(program)
                for times in [least, least + 1, least + 50, 10 ** 12, MOST]:
                    self.assertEqual(count_edges(program, times), each * times + extra)
                    numbers, last = times_with(program, each * times + extra)
                    self.assertTrue(times in numbers or (last is not None and times >= last))
                self.assertEqual(growth_of(-program), (each, extra, least))
                self.assertEqual(growth_of(packed(program)), (each, extra, least))

    def test_times_for_what_is_drawn(self):
        for text in TEXTS:
            program = Program(text)
            if program.length <= 100:
                for times in [0, 1, 2, 3, 7]:
                    found = times_for(program, drawn((PUT_DOWN + program) * times))
                    self.assertLessEqual(found, times)
                    self.assertEqual(picture_after(program, found), picture_after(program, times))


if __name__ == "__main__":
    unittest.main()
