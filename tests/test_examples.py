"""The examples of sections 4 to 19 of the document, word for word."""

import unittest

from plotpens.errors import InvalidSource, InvalidText


class ExamplesTest(unittest.TestCase):
    def test_program(self):
        from plotpens.programs import Program
        stair = Program("f l f2 r")
        deep = Program("( f2 ( l f )3 )10")
        self.assertEqual(
            [stair.length, len(stair), deep.length, deep.depth, "b" in stair, (stair * 4).text, (-stair).text, (~stair).text],
            [5, 4, 80, 2, False, '( f l f2 r )4', 'f r f2 l', 'l b2 r b'])

    def test_invalid_text(self):
        from plotpens.programs import Program
        with self.assertRaises(InvalidText) as caught:
            Program("f ( l )")
        self.assertEqual(caught.exception.index, 3)

    def test_steps(self):
        from plotpens.programs import Program, count_steps, step_at, steps_from, written
        far = Program("f2 l") * 10 ** 30
        some = [step for turn, step in zip(range(4), steps_from(far, 10 ** 30))]
        self.assertEqual(
            [step_at(far, 3 * 10 ** 30 - 1), count_steps(far, "f") == 2 * 10 ** 30, written(Program("f2 ( l )3")), some],
            ['l', True, 'fflll', ['f', 'l', 'f', 'f']])

    def test_source(self):
        from plotpens.sources import names_of, read_source, routine
        source = "side: f2 l\nroom: ( side )4\nroom u f3 d room"
        self.assertEqual(
            [read_source(source).text, routine(source, "room").length, names_of(source)],
            ['( f2 l )4 u f3 d ( f2 l )4', 12, ['side', 'room']])

    def test_invalid_source(self):
        from plotpens.sources import read_source
        with self.assertRaises(InvalidSource) as caught:
            read_source("side: f x\nside")
        self.assertEqual((caught.exception.line, caught.exception.index), (0, 2))

    def test_motions(self):
        from plotpens.motions import Motion, motion_of, pose_after
        from plotpens.programs import Program
        corner, stair = Motion(1, 1, 0), Program("f l f2 r")
        far = motion_of(stair) * 10 ** 30
        self.assertEqual(
            [corner((0, 0, 3)), (corner + corner).shift, corner.order(), -corner == Motion(3, 0, 1),
             far.shift[0] == 10 ** 30, pose_after(stair * 10, 7)],
            [(0, -1, 0), (1, 1), 4, True, True, (2, 2, 1)])

    def test_paths(self):
        from plotpens.paths import first_at, points_of, stretches_of
        from plotpens.programs import Program
        stair = Program("f l f2 r")
        self.assertEqual(
            [points_of(stair), stretches_of(Program("f u f d f2")),
             [first_at(stair, point) for point in [(1, 1), (5, 9), (0, 5)]]],
            [[(0, 0), (1, 0), (1, 1), (1, 2)], [((0, 0), (1, 0)), ((2, 0), (3, 0), (4, 0))], [3, 23, None]])

    def test_pictures(self):
        from plotpens.pictures import Picture, drawn, edge_between, passes_of
        from plotpens.programs import Program
        nibble = Program("f2 b")
        self.assertEqual(
            [drawn(nibble).edges, passes_of(nibble), edge_between((1, 0), (0, 0)), edge_between((0, 0), (1, 1))],
            [((0, 0, 0),), [((0, 0, 0), 1), ((1, 0, 0), 2)], (0, 0, 0), None])
        one, two = Picture([(0, 0, 0), (0, 0, 1)]), Picture([(5, 5, 0), (0, 0, 1)])
        self.assertEqual(
            [(one ^ two).edges, one.turned(1).edges, one.moved(2, 0).edges],
            [((0, 0, 0), (5, 5, 0)), ((-1, 0, 0), (0, 0, 1)), ((2, 0, 0), (2, 0, 1))])

    def test_odds(self):
        from plotpens.odds import degree_at, ends_of, odd_points, parts_of
        from plotpens.pictures import Picture, drawn
        from plotpens.programs import Program
        steps = drawn(Program("f l f2 r"))
        self.assertEqual(
            [odd_points(steps), degree_at(steps, (1, 0)), ends_of(Program("f u f d f2")),
             len(parts_of(Picture([(0, 0, 0), (5, 5, 0)])))],
            [[(0, 0), (1, 2)], 2, [(0, 0), (1, 0), (2, 0), (4, 0)], 2])

    def test_strokes(self):
        from plotpens.faces import outline_of
        from plotpens.pictures import Picture
        from plotpens.strokes import fewest_plain, fewest_toggled, is_plain, is_toggled, toggled_strokes
        far, one = outline_of([(0, 0), (5, 5)]), Picture([(0, 0, 0)])
        again = [is_plain(one, [((1, 0), (0, 0))]), is_toggled(one, [((0, 0), (1, 0), (2, 0), (1, 0))])]
        self.assertEqual(
            [fewest_plain(far), fewest_toggled(far), is_toggled(far, toggled_strokes(far)), again],
            [2, 1, True, [True, True]])

    def test_writing(self):
        from plotpens.faces import outline_of
        from plotpens.paths import stretches_of
        from plotpens.pictures import drawn
        from plotpens.programs import Program
        from plotpens.writing import fewest_words, packed, program_for
        far = outline_of([(0, 0), (5, 5)])
        found = program_for(far)
        self.assertEqual(
            [drawn(found, pen=False) == far, len(stretches_of(found, pen=False)), fewest_words(Program("f l f l f l f l")),
             packed(Program("f f2 f")).text],
            [True, 1, 4, 'f4'])

    def test_faces(self):
        from plotpens.faces import area_of, count_inside, inside_of, outline_of, winding
        from plotpens.pictures import drawn
        from plotpens.programs import Program
        self.assertEqual(
            [inside_of(drawn(Program("( f2 l )4"))), len(outline_of([(0, 0), (1, 0)])), count_inside(outline_of([(0, 0), (5, 5)]))],
            [[(0, 0), (0, 1), (1, 0), (1, 1)], 6, 2])
        self.assertEqual(
            [winding(Program("( f l )12"), (0, 0)), winding(Program("( f l )12"), (1, 0)), area_of(Program("( f2 r )4"))],
            [3, 0, -4])

    def test_spans(self):
        from plotpens.spans import covered, depth_at, odd_covered
        some = [(0, 10 ** 30), (2, 10 ** 30 + 2), (5, 6)]
        self.assertEqual([covered(some) - 10 ** 30, odd_covered(some), depth_at(some, 5)], [2, 5, 3])

    def test_far(self):
        from plotpens.far import count_edges, count_odd, faces_after, strokes_after
        from plotpens.programs import Program
        stair, square, dash, boxes = Program("f l f2 r"), Program("( f l )4"), Program("u f d f"), Program("( f2 l )4 u f")
        counts = [[count_edges(stair, times) for times in [0, 2, 10 ** 12]],
                  [count_edges(square, times) for times in [1, 2, 10 ** 30 - 1]]]
        self.assertEqual(
            [counts, count_odd(dash, 10 ** 12), strokes_after(dash, 10 ** 12), strokes_after(stair, 10 ** 12),
             faces_after(boxes, 10 ** 30)],
            [[[0, 6, 3000000000000], [4, 0, 4]], 2000000000000, 1000000000000, 1, 4])

    def test_passes_in_many_rounds(self):
        from plotpens.far import count_edges, count_passed, passes_at, rounds_passing
        from plotpens.programs import Program
        nibble = Program("f2 b")
        self.assertEqual(
            [passes_at(nibble, (3, 0, 0), 10), rounds_passing(nibble, (3, 0, 0)), count_passed(nibble, 5), count_edges(nibble, 5)],
            [3, [2, 3], 6, 5])

    def test_growth(self):
        from plotpens.growth import growth_of, times_with
        from plotpens.programs import Program
        stair, boxes = Program("f l f2 r"), Program("( f2 l )4 u f")
        self.assertEqual(
            [growth_of(stair), growth_of(boxes), times_with(stair, 30), times_with(boxes, 12), times_with(boxes, 8)],
            [(3, 0, 1), (0, 12, 2), ([10], None), ([], 2), ([1], None)])

    def test_times_for(self):
        from plotpens.far import picture_after
        from plotpens.growth import times_for
        from plotpens.programs import Program
        stair = Program("f l f2 r")
        self.assertEqual(
            [times_for(stair, picture_after(stair, 700)), times_for(Program("( f l )4"), picture_after(stair, 1))],
            [700, None])

    def test_meetings(self):
        from plotpens.meetings import meeting
        from plotpens.programs import Program
        ahead = Program("f")
        steps, point = meeting(Program("f2 b"), (0, 0, 0), Program("l"), (10 ** 30, 0, 0))
        self.assertEqual(
            [meeting(ahead, (0, 0, 0), ahead, (10, 0, 2)), meeting(ahead, (0, 0, 0), ahead, (9, 0, 2)), steps == 3 * 10 ** 30 - 4],
            [(5, (5, 0)), None, True])

    def test_sheets(self):
        from plotpens.programs import Program
        from plotpens.sheets import Sheet
        sheet, stair = Sheet(), Program("f l f2 r")
        told = [sheet.play(stair, times=2), sheet.pose, sheet.jump((0, 0, 0)), sheet.play(stair), len(sheet.preview(("wipe",))),
                len(sheet)]
        self.assertEqual(
            [told, sheet.undo(), sheet.undo(), sheet.pose, sheet.log() == [("play", stair, 2)], len(Sheet.of((0, 0, 0), (1, 0, 0)))],
            [[6, (2, 4, 0), (2, 4, 0), 3, 0, 3], None, None, (2, 4, 0), True, 2])

    def test_art(self):
        from plotpens.art import read_art, show_art
        from plotpens.faces import outline_of
        art = show_art(outline_of([(0, 0), (1, 1)]))
        self.assertEqual(
            [art, read_art(art).edges[:2], read_art(["1-1"]).edges],
            [['. 2-2', '  | |', '2-4-2', '| |  ', '2-2 .'], ((0, 0, 0), (0, 0, 1)), ((0, 0, 0),)])

    def test_console(self):
        from plotpens.console import Console
        console = Console()
        kept = console.say("program f l f2 r")
        self.assertEqual(kept, "ok")
        self.assertEqual(
            [console.say(row) for row in ["motion", "play 2", "pose", "odd", "strokes", "count 1000", "growth", "art 0", "undo", "odd"]],
            ['0 1 2', '6', '2 4 0', '0,0 2,4', '1 1', '3000', '3 0 1', '. . 1', 'ok', '-'])

    def test_table_of_programs(self):
        from plotpens.motions import Motion, motion_of
        from plotpens.pictures import drawn
        from plotpens.programs import Program
        table = [("f l f2 r", 5, (0, 1, 2), ((0, 0, 0), (1, 0, 1), (1, 1, 1))),
                 ("( f l )4", 8, (0, 0, 0), ((0, 0, 0), (0, 0, 1), (0, 1, 0), (1, 0, 1))),
                 ("f2 b", 3, (0, 1, 0), ((0, 0, 0),)), ("u f d f", 4, (0, 2, 0), ((1, 0, 0),))]
        for text, length, motion, edges in table:
            program = Program(text)
            self.assertEqual((program.length, drawn(program).edges), (length, edges))
            self.assertEqual(motion_of(program), Motion(*motion))


if __name__ == "__main__":
    unittest.main()
