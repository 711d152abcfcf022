"""What the modules promise together."""

import random
import unittest

from helpers import CLOSING, DRIFTING, all_edges, all_steps, grid_of_faces, some_sets, some_texts
from plotpens.art import read_art, show_art
from plotpens.console import Console
from plotpens.errors import TooLarge
from plotpens.faces import area_of, count_inside, inside_of, outline_of
from plotpens.far import count_edges, count_odd, count_passed, faces_after, has_edge, passes_at, picture_after, strokes_after
from plotpens.growth import growth_of, times_for, times_with
from plotpens.meetings import meeting
from plotpens.motions import motion_of, pen_after, pose_after
from plotpens.odds import ends_of, is_even, odd_points, parts_of
from plotpens.paths import first_at, points_of, stretches_of
from plotpens.pictures import Picture, drawn, edge_between, passes_of
from plotpens.programs import Program, written
from plotpens.sheets import Sheet
from plotpens.sources import read_source, routine
from plotpens.strokes import fewest_toggled, is_plain, plain_strokes, toggled_strokes
from plotpens.writing import fewest_words, packed, program_for

MOST = 10 ** 30
BLANK = Picture([])
TEXTS = DRIFTING + CLOSING + some_texts(201, 50, 8)
SETS = some_sets(202, 60, all_edges(5, 5))
SMALL = [Picture(edges[:40]) for edges in SETS]


def five_times(text):
    """A program with each step five times."""
    return Program(" ".join(f"{step}5" for step in all_steps(text)))


def enlarged(picture):
    """A picture in which each edge is a row of five."""
    return Picture([(5 * x + at * (1 - side), 5 * y + at * side, side) for x, y, side in picture.edges for at in range(5)])


class PicturesTest(unittest.TestCase):
    def test_programs_to_pictures_and_back(self):
        for picture in SMALL + [picture.moved(20, -35) for picture in SMALL[::6]]:
            program = program_for(picture)
            self.assertEqual(drawn(program, pen=False), picture)
            self.assertEqual(len(stretches_of(program, pen=False)), fewest_toggled(picture))
            sheet = Sheet()
            sheet.play(Program("u") + program)
            self.assertEqual(sheet.picture, picture)
            self.assertEqual(read_source(program.text), program)
            if program.length <= 60:
                self.assertEqual(drawn(packed(program), pen=False), picture)
                self.assertLessEqual(fewest_words(program), len(program))

    def test_sums_of_pictures(self):
        for one, two in zip(SMALL, SMALL[1:]):
            sheet = Sheet()
            sheet.lay(one), sheet.lay(two)
            self.assertEqual(sheet.picture, one ^ two)
            self.assertEqual(set(odd_points(one ^ two)), set(odd_points(one)) ^ set(odd_points(two)))
            there = Program("u") + program_for(one)
            x, y, turn = pose_after(there, there.length)
            sheet.wipe(), sheet.play(there), sheet.jump((0, 0, 0)), sheet.play(Program("u") + program_for(two))
            self.assertEqual(sheet.picture, one ^ two)
            if there.length + program_for(two).length <= 1000:
                both = drawn(there + Program("u") + program_for(two))
                self.assertEqual(both, one ^ two.turned(turn).moved(x, y))

    def test_pictures_from_strokes(self):
        for picture in SMALL:
            for strokes in [plain_strokes(picture), toggled_strokes(picture)]:
                edges = [edge_between(one, other) for stroke in strokes for one, other in zip(stroke, stroke[1:])]
                again = BLANK
                for edge in edges:
                    again = again ^ Picture([edge])
                self.assertEqual(again, picture)
            self.assertIs(is_plain(picture, plain_strokes(picture)), True)
            whole = BLANK
            for part in parts_of(picture):
                whole = whole ^ part
            self.assertEqual(whole, picture)

    def test_art_of_parts_and_of_what_is_read(self):
        for picture in SMALL:
            read = read_art(show_art(picture))
            self.assertEqual(len(read), len(picture))
            self.assertEqual(len(odd_points(read)), len(odd_points(picture)))
            self.assertEqual([len(part) for part in parts_of(read)], [len(part) for part in parts_of(picture)])
            digits = "".join(show_art(picture))
            self.assertEqual(digits.count("1") + digits.count("3"), len(odd_points(picture)))
            self.assertEqual(digits.count("-") + digits.count("|"), len(picture))

    def test_sources_to_art(self):
        source = "side: f2 l\nroom: ( side )4\nroom u f3 d room"
        self.assertEqual(show_art(drawn(read_source(source))),
                         ["2-2-2 2-2-2", "|   | |   |", "2 . 2 2 . 2", "|   | |   |", "2-2-2 2-2-2"])
        self.assertEqual(show_art(drawn(routine(source, "side"))), ["1-2-1"])

    def test_parts_as_routines(self):
        for one, two, three in zip(TEXTS, TEXTS[1:], TEXTS[2:]):
            if one and two and three:
                source = f"one: {one}\ntwo: {two} one\nboth: ( one two )3\n{three} both u one d two"
                first, second = Program(one), Program(two) + Program(one)
                both = (first + second) * 3
                self.assertEqual(routine(source, "both"), both)
                last = Program(three) + both + Program("u") + first + Program("d") + second
                self.assertEqual(read_source(source), last)
                if last.length <= 1000:
                    self.assertEqual(drawn(read_source(source)), drawn(last))


class FacesTest(unittest.TestCase):
    def test_faces_on_sheets(self):
        chance = random.Random(203)
        sheet, inside = Sheet(), set()
        for _ in range(60):
            faces = chance.sample(grid_of_faces(7, 7), chance.randrange(6))
            sheet.lay(outline_of(faces))
            inside ^= set(faces)
            self.assertEqual(inside_of(sheet.picture), sorted(inside))
            self.assertIs(is_even(sheet.picture), True)
        while sheet.log():
            sheet.undo()
        self.assertEqual(sheet, Sheet())

    def test_boxes_played_on_sheets(self):
        sheet, inside = Sheet(), set()
        for x, y, size in [(0, 0, 4), (2, 2, 3), (1, -1, 2), (-3, 3, 5), (0, 0, 4), (3, 3, 1)]:
            sheet.jump((x, y, 0))
            sheet.play(Program(f"( f{size} l )4") if size > 1 else Program("( f l )4"))
            inside ^= {(x + across, y + up) for across, up in grid_of_faces(size, size)}
            self.assertEqual(inside_of(sheet.picture), sorted(inside))
            self.assertEqual(sheet.pose, (x, y, 0))

    def test_faces_after_many_rounds_and_their_area(self):
        for size in [2, 3, 5]:
            box = Program(f"( f{size} l )4")
            self.assertEqual(area_of(box), size ** 2)
            self.assertEqual(faces_after(box + Program(f"u f{size}"), MOST), size ** 2 * MOST)
            self.assertEqual(faces_after(box, MOST - 1), size ** 2)
            self.assertEqual(faces_after(box + Program(f"u f{size + 1}"), MOST), size ** 2 * MOST)
        for text in ["( f2 l )4 u f", "( f4 l )4 u f", "( f4 l )4 u f l f2 r", "( f2 l f4 l )2 u f2 l f r"]:
            self.assertEqual(faces_after(Program(text), 40), count_inside(picture_after(Program(text), 40)))


class RoundsTest(unittest.TestCase):
    def test_rounds_on_sheets(self):
        for text in TEXTS:
            sheet = Sheet()
            for times in [1, 2, 3, 4]:
                sheet.play(Program(text))
                self.assertEqual(sheet.picture, picture_after(Program(text), times))
                self.assertEqual(len(sheet), count_edges(Program(text), times))
                self.assertEqual(fewest_toggled(sheet.picture), strokes_after(Program(text), times))
                self.assertEqual(len(odd_points(sheet.picture)), count_odd(Program(text), times))

    def test_rounds_parted_anywhere(self):
        for text in TEXTS:
            program = Program(text)
            for first, second in [(1, 6), (3, 5), (4, 4), (MOST - 1, 1), (1, MOST - 1), (10 ** 20, MOST - 10 ** 20)]:
                whole, parted = Sheet(), Sheet()
                try:
                    whole.play(program, times=first + second)
                    parted.play(program, times=first)
                    parted.play(program, times=second)
                except TooLarge:
                    continue
                self.assertEqual(parted, whole)
            for first, second in [(3, 5), (10 ** 20, MOST - 10 ** 20)]:
                # The second rounds seen from where they begin.
                x, y, turn = (motion_of(program) * first)((0, 0, 0))
                for edge, _ in passes_of(program, start=(x, y, turn)):
                    back = Picture([edge]).moved(-x, -y).turned((4 - turn) % 4).edges[0]
                    self.assertEqual(passes_at(program, edge, first + second),
                                     passes_at(program, edge, first) + passes_at(program, back, second))

    def test_rounds_begun_in_the_middle(self):
        for text in [text for text in TEXTS if "u" not in text]:
            steps = written(Program(text))
            for at in range(0, len(steps) + 1, 3):
                front, behind = Program(" ".join(steps[:at])), Program(" ".join(steps[at:]))
                sheet = Sheet()
                sheet.play(front), sheet.play(behind + front, times=4), sheet.play(behind)
                self.assertEqual(sheet.picture, picture_after(Program(text), 5))
                motion, turned = motion_of(front + behind), motion_of(behind + front)
                self.assertEqual(motion.turn, turned.turn)
                self.assertEqual(motion.order(), turned.order())
                if motion.order() is None:
                    # Each further round adds as many edges, but the first and the last ones may leave others.
                    self.assertEqual(growth_of(behind + front)[0], growth_of(front + behind)[0])
                    self.assertEqual(count_odd(behind + front, MOST), count_odd(front + behind, MOST))
                self.assertEqual(count_passed(behind + front, MOST) > 0, count_passed(front + behind, MOST) > 0)

    def test_each_step_five_times(self):
        for text in TEXTS:
            program, five = Program(text), five_times(text)
            self.assertEqual(motion_of(five).turn, motion_of(program).turn)
            self.assertEqual(motion_of(five).shift, tuple(5 * number for number in motion_of(program).shift))
            self.assertIs(pen_after(five), pen_after(program))
            self.assertEqual(drawn(five), enlarged(drawn(program)))
            self.assertEqual(len(ends_of(five)), len(ends_of(program)))
            self.assertEqual(points_of(five)[::5], [(5 * x, 5 * y) for x, y in points_of(program)])
            for times in [1, 3, 10 ** 12, MOST]:
                self.assertEqual(count_edges(five, times), 5 * count_edges(program, times))
                self.assertEqual(count_passed(five, times), 5 * count_passed(program, times))
                self.assertEqual(count_odd(five, times), count_odd(program, times))
                self.assertEqual(strokes_after(five, times), strokes_after(program, times))
            if motion_of(program).order() is None and five.length <= 200:
                each, extra, least = growth_of(program)
                self.assertEqual(growth_of(five), (5 * each, 5 * extra, least))
                self.assertEqual(times_with(five, 5 * each * 100 + 5 * extra), times_with(program, each * 100 + extra))
                self.assertEqual(times_for(five, enlarged(picture_after(program, 6))), times_for(program, picture_after(program, 6)))
            if is_even(drawn(program)):
                self.assertEqual(faces_after(five, MOST), 25 * faces_after(program, MOST))

    def test_ways_there_and_back(self):
        for text in [text for text in TEXTS if "u" not in text and "d" not in text]:
            program = Program(text)
            sheet = Sheet()
            for pose in [(0, 0, 0), (4, -4, 3)]:
                sheet.jump(pose)
                for times in [1, 2, 7, MOST]:
                    if count_edges(program, times) <= 4000:
                        sheet.play(program, times=times)
                        self.assertEqual(sheet.play(~program, times=times), 0)
                        self.assertEqual((sheet.picture, sheet.pose), (BLANK, pose))
            self.assertEqual(count_edges(program + ~program, MOST), 0)
            self.assertEqual(points_of(program + ~program)[::-1], points_of(program + ~program))

    def test_edges_and_when_points_are_reached(self):
        for text in TEXTS:
            program = Program(text)
            for number in [0, 1, 2, 3]:
                for point in points_of(program * number)[-4:]:
                    steps = first_at(program, point)
                    self.assertEqual(pose_after(program * (number + 1), steps)[:2], point)
                    if program.length:
                        self.assertLessEqual(steps, number * program.length)
            for edge in picture_after(program, 9).edges:
                self.assertIs(has_edge(program, edge, 9), True)
                self.assertIn(edge, picture_after(program, 9))


class MeetingsTest(unittest.TestCase):
    def test_meetings_and_poses(self):
        chance = random.Random(204)
        short = [text for text in TEXTS if 0 < Program(text).length <= 60]
        for _ in range(200):
            program, other = Program(chance.choice(short)), Program(chance.choice(short))
            pose = (chance.randrange(-8, 9), chance.randrange(-8, 9), chance.randrange(4))
            found = meeting(program, (0, 0, 0), other, pose)
            if found is not None:
                steps, point = found
                self.assertEqual(pose_after(program * MOST, steps)[:2], point)
                self.assertEqual(pose_after(other * MOST, steps, start=pose)[:2], point)
                self.assertLessEqual(first_at(program, point), steps)

    def test_one_that_stands_still_is_met_when_its_point_is_reached_first(self):
        for text in [text for text in TEXTS if 0 < Program(text).length <= 60]:
            for point in [(0, 0), (1, 0), (3, 1), (5, 9), (-4, 0), (10 ** 30, 0), (0, -10 ** 30)]:
                found = meeting(Program(text), (0, 0, 0), Program("l"), (*point, 2))
                steps = first_at(Program(text), point)
                self.assertEqual(found, None if steps is None else (steps, point))


class ConsoleTest(unittest.TestCase):
    def test_console_and_functions(self):
        for text in TEXTS:
            program, console, sheet = Program(text), Console(), Sheet()
            console.say(f"program {text}")
            for times in [1, 2, 5]:
                self.assertEqual(console.say(f"play {times}"), str(sheet.play(program, times=times)))
            rows = show_art(sheet.picture) if len(sheet) and len(sheet) < 30 else []
            self.assertEqual([console.say(f"art {at}") for at in range(len(rows))], rows)
            if len(sheet) <= 40:
                planned = console.say("plan")
                self.assertEqual(drawn(Program("" if planned == "-" else planned), pen=False), sheet.picture)
                console.say("wipe"), console.say("jump 0 0 0"), console.say("program " + ("u " + planned if planned != "-" else ""))
                self.assertEqual(console.say("play 1"), str(len(sheet)))


if __name__ == "__main__":
    unittest.main()
