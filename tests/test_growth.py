"""growth_of, times_with and times_for."""

import unittest

from helpers import (CLOSING, DRIFTING, WRONG_VALUES, all_edges, all_steps, check_errors, check_too_large, drawn_in_rounds, nested,
                     passed_in_rounds, some_texts, toggled)
from plotpens.errors import InvalidCount, InvalidPicture, InvalidProgram, NotDrifting
from plotpens.far import count_edges, picture_after
from plotpens.growth import growth_of, times_for, times_with
from plotpens.motions import motion_of
from plotpens.pictures import Picture, drawn
from plotpens.programs import Program

MOST = 10 ** 30
BLANK = Picture([])
ROUNDS = 45
MORE = [text for text in some_texts(151, 400, 11) if motion_of(Program(text)).order() is None][:90]
# Far apart in one class: only after many rounds they meet.
APART = {"f u f97 d f u b98": (0, 196, 98), "f u f50 d f u b51": (0, 102, 51), "f u f20 d f u f9 d f u b31": (1, 0, 31),
         "f b f u f7 d f b u b6": (1, 0, 1), "f l f2 r": (3, 0, 1), "( f2 l )4 u f": (0, 12, 2), "u f": (0, 0, 1), "f b f": (1, 0, 1),
         "f u f2 b2": (1, 0, 1), "( f l )4 u f2": (4, 0, 1), "( f l )4 u f": (2, 2, 1), "( f3 l )4 u f": (2, 18, 3),
         "u b50 d f u f49 d f": (0, 100, 50), "u f50 d b u b49 d b": (0, 100, 50), "u l f50 d b u b49 d b r": (0, 100, 50),
         "f200": (200, 0, 1), "f101 b99": (2, 0, 1), "b f2 u f8 d f u b9": (0, 18, 9)}
WRONG_COUNTS = WRONG_VALUES[:3] + WRONG_VALUES[7:] + ["", "1", -1, -10 ** 99, [1], (1,), [], ()]
WRONG_PROGRAMS = WRONG_VALUES + ["f", "", (), [Program("f")], drawn(Program("f"))]
WRONG_PICTURES = WRONG_VALUES + ["", [], (), [(0, 0, 0)], ((0, 0, 0),), (0, 0, 0), Program("f")]


def counts_of(text, most=ROUNDS):
    """The numbers of edges after 0, 1, 2 .. rounds, performed step by step."""
    found, left = [0], set()
    for edges in passed_in_rounds(all_steps(text), most):
        left ^= toggled(edges)
        found.append(len(left))
    return found


class GrowthTest(unittest.TestCase):
    def check(self, text, most=ROUNDS):
        program, counts = Program(text), counts_of(text, most)
        each, extra, least = growth_of(program)
        self.assertGreaterEqual(least, 1)
        self.assertLess(least, most - 5)
        for times in range(least, most + 1):
            self.assertEqual(each * times + extra, counts[times], text)
        if least > 1:
            self.assertNotEqual(each * (least - 1) + extra, counts[least - 1], text)
        for times in [10 ** 6, MOST - 1, MOST]:
            self.assertEqual(each * times + extra, count_edges(program, times), text)

    def test_against_counts(self):
        for text in DRIFTING + MORE:
            self.check(text)

    def test_far_apart(self):
        for text, growth in APART.items():
            self.assertEqual(growth_of(Program(text)), growth, text)
        for text in ["f u f50 d f u b51", "f u f20 d f u f9 d f u b31", "u f2 d f u f60 d f3 u b65"]:
            self.check(text, 110)

    def test_each_is_the_number_of_odd_classes(self):
        for text in DRIFTING + MORE:
            dx, dy = motion_of(Program(text)).shift
            numbers = {}
            for x, y, side in passed_in_rounds(all_steps(text), 1)[0]:
                at = x // dx if dx else y // dy
                first = (x - at * dx, y - at * dy, side)
                numbers[first] = numbers.get(first, 0) + 1
            self.assertEqual(growth_of(Program(text))[0], sum(number % 2 for number in numbers.values()))

    def test_it_may_rise_and_fall_before(self):
        program = Program("f u f9 d f u b10")
        self.assertEqual([count_edges(program, times) for times in [1, 5, 9, 10, 11, 50]], [2, 10, 18, 20, 20, 20])
        self.assertEqual(growth_of(program), (0, 20, 10))
        falling = Program("f u f6 d f u f6 d f u b14")
        counts = counts_of("f u f6 d f u f6 d f u b14", 30)
        self.assertEqual(growth_of(falling), (1, 0, 14))
        self.assertEqual(counts[7:15], [21, 20, 19, 18, 17, 16, 15, 14])


class TimesWithTest(unittest.TestCase):
    def test_against_counts(self):
        for text in DRIFTING + MORE:
            counts = counts_of(text)
            for count in sorted(set(counts) | {0, 1, 2, 3, 7}):
                numbers, least = times_with(Program(text), count)
                found = [times for times in range(1, ROUNDS + 1) if counts[times] == count]
                if least is None:
                    self.assertEqual([number for number in numbers if number <= ROUNDS], found, (text, count))
                else:
                    self.assertEqual(numbers + list(range(least, ROUNDS + 1)), found, (text, count))
                    self.assertTrue(all(number < least - 1 for number in numbers))
                    self.assertTrue(least == 1 or counts[least - 1] != count)
                for number in numbers:
                    self.assertEqual(count_edges(Program(text), number), count)

    def test_from_some_number_on(self):
        self.assertEqual(times_with(Program("u f"), 0), ([], 1))
        self.assertEqual(times_with(Program("u f"), 1), ([], None))
        self.assertEqual(times_with(Program("f b u f"), 0), ([], 1))
        self.assertEqual(times_with(Program("f u f50 d f u b51"), 102), ([], 51))
        self.assertEqual(times_with(Program("f u f50 d f u b51"), 100), ([50], None))
        self.assertEqual(times_with(Program("f u f50 d f u b51"), 99), ([], None))
        self.assertEqual(times_with(Program("f u f50 d f u b51"), 0), ([], None))
        # Two places in one class far apart, and four in another one: the number is reached, left, and reached again.
        text = "u f d f u f d f u f12 d f u f d f u b17"
        counts = counts_of(text, 60)
        numbers, least = times_with(Program(text), counts[60])
        self.assertEqual(numbers + list(range(least, 61)), [times for times in range(1, 61) if counts[times] == counts[60]])

    def test_finitely_many(self):
        falling = Program("f u f6 d f u f6 d f u b14")
        self.assertEqual(times_with(falling, 15), ([5, 13, 15], None))
        self.assertEqual(times_with(falling, 21), ([7, 21], None))
        self.assertEqual(times_with(falling, 22), ([22], None))
        self.assertEqual(times_with(falling, 3 * MOST), ([3 * MOST], None))
        self.assertEqual(times_with(Program("f l f2 r"), 3 * 10 ** 12), ([10 ** 12], None))
        self.assertEqual(times_with(Program("f l f2 r"), 3 * 10 ** 12 + 1), ([], None))
        self.assertEqual(times_with(Program("f200"), 0), ([], None))


class TimesForTest(unittest.TestCase):
    def test_few_rounds(self):
        for text in DRIFTING + CLOSING + MORE[:30]:
            program, pictures = Program(text), []
            for times in range(13):
                picture = Picture(sorted(drawn_in_rounds(all_steps(text), times)))
                pictures.append(picture)
                self.assertEqual(times_for(program, picture), pictures.index(picture), (text, times))

    def test_pictures_of_one_edge_more_or_less(self):
        for text in DRIFTING + CLOSING:
            program = Program(text)
            pictures = [picture_after(program, times) for times in range(40)]
            for times in [0, 1, 2, 5, 9]:
                some = list(pictures[times].edges[:2]) + list(pictures[times].edges[-2:]) + [(0, 0, 0), (1, 0, 0), (-1, 3, 1)]
                for edge in some:
                    changed = pictures[times] ^ Picture([edge])
                    expected = pictures.index(changed) if changed in pictures else None
                    self.assertEqual(times_for(program, changed), expected, (text, times, edge))

    def test_far_numbers_of_rounds(self):
        for text in DRIFTING:
            program = Program(text)
            pictures = [picture_after(program, times) for times in range(102)]
            for times in [60, 100]:
                picture = pictures[times]
                self.assertEqual(times_for(program, picture), pictures.index(picture))
                for edge in picture.edges[:1] + picture.edges[-1:]:
                    changed = picture ^ Picture([edge])
                    self.assertEqual(times_for(program, changed), pictures.index(changed) if changed in pictures else None)
                if picture.edges:
                    self.assertIsNone(times_for(program, picture.moved(1000, 1000)))
            if growth_of(program)[0] == 0 and count_edges(program, MOST) > 0:
                for times in [10 ** 12, MOST - 1, MOST]:
                    picture = picture_after(program, times)
                    self.assertEqual(times_for(program, picture), times)
                    for edge in picture.edges:
                        self.assertIsNone(times_for(program, picture ^ Picture([edge])))
                    self.assertIsNone(times_for(program, picture ^ Picture([(7, 50, 0)])))
                    self.assertIsNone(times_for(program, picture.moved(0, 1)))

    def test_beyond_any_number_that_can_be_asked_for(self):
        boxes = Program("( f2 l )4 u f")
        edges = picture_after(boxes, 10).edges
        moved = [(x + 10 ** 40 - 10, y, side) for x, y, side in edges if x > 5]
        self.assertEqual(times_for(boxes, Picture([edge for edge in edges if edge[0] <= 5] + moved)), 10 ** 40)

    def test_blank_pictures(self):
        for text in DRIFTING + CLOSING + MORE:
            self.assertEqual(times_for(Program(text), BLANK), 0)

    def test_other_pictures(self):
        for text in DRIFTING + CLOSING:
            program = Program(text)
            pictures = [picture_after(program, times) for times in range(12)]
            for edges in [[edge] for edge in all_edges(3, 2)] + [[(10 ** 99, 0, 0)], [(-10 ** 99, 5, 1)], [(-3, 0, 0), (0, 0, 0)]]:
                picture = Picture(edges)
                expected = pictures.index(picture) if picture in pictures else None
                self.assertEqual(times_for(program, picture), expected, (text, edges))

    def test_large_pictures(self):
        row = Program("f")
        self.assertEqual(times_for(row, picture_after(row, 4000)), 4000)
        self.assertEqual(times_for(Program("f200"), picture_after(row, 4000)), 20)
        self.assertIsNone(times_for(Program("f3"), picture_after(row, 4000)))
        wide = picture_after(row, 4000) ^ picture_after(row, 4000).moved(4000, 0)
        self.assertEqual(times_for(row, wide), 8000)
        self.assertIsNone(times_for(row, Picture([(10 ** 30, 0, 0)])))

    def test_rounds_that_close(self):
        for text in CLOSING:
            program = Program(text)
            order = motion_of(program).order()
            pictures = [picture_after(program, times) for times in range(2 * order)]
            for times in [2 * order - 1, 2 * order, 2 * order + 1, MOST - 3, MOST]:
                picture = picture_after(program, times)
                self.assertEqual(times_for(program, picture), pictures.index(picture))


class ErrorsTest(unittest.TestCase):
    def test_growth_of(self):
        check_errors(self, growth_of, [(Program("f"), WRONG_PROGRAMS, InvalidProgram)])
        for text in CLOSING:
            self.assertRaises(NotDrifting, growth_of, Program(text))

    def test_times_with(self):
        check_errors(self, times_with, [(Program("f"), WRONG_PROGRAMS, InvalidProgram), (3, WRONG_COUNTS, InvalidCount)])
        for text in CLOSING:
            self.assertRaises(NotDrifting, times_with, Program(text), 0)
            self.assertRaises(InvalidCount, times_with, Program(text), -1)
        self.assertRaises(InvalidCount, times_with, Program("f201"), True)

    def test_times_for(self):
        check_errors(self, times_for, [(Program("f"), WRONG_PROGRAMS, InvalidProgram), (BLANK, WRONG_PICTURES, InvalidPicture)])
        self.assertRaises(InvalidPicture, times_for, Program("f201"), None)

    def test_too_many_steps(self):
        for text in ["f201", "f200 l", "( f l )101", "( f b )101", "u f1000", "f1001", nested(12, "f", MOST)]:
            program = Program(text)
            check_too_large(self, 200, lambda: growth_of(program))
            check_too_large(self, 200, lambda: times_with(program, 5))
            check_too_large(self, 200, lambda: times_for(program, BLANK))
        self.assertRaises(NotDrifting, growth_of, Program("( f b )100"))
        self.assertRaises(NotDrifting, times_with, Program("f199 l"), 1)
        self.assertEqual(growth_of(Program("f u f97 d f u b98")), (0, 196, 98))
        self.assertEqual(times_for(Program("f199 l"), drawn(Program("f199"))), 1)

    def test_returned_lists_are_new(self):
        times_with(Program("f l f2 r"), 30)[0].append(5)
        self.assertEqual(times_with(Program("f l f2 r"), 30), ([10], None))

    def test_kinds_of_values(self):
        for text in ["f", "u f", "( f2 l )4 u f"]:
            for value in [growth_of(Program(text)), times_with(Program(text), 0), times_with(Program(text), 12)]:
                self.assertIs(type(value), tuple)
            self.assertEqual([type(value) for value in growth_of(Program(text))], [int, int, int])
            self.assertIs(type(times_with(Program(text), 12)[0]), list)
            self.assertIs(type(times_for(Program(text), BLANK)), int)


if __name__ == "__main__":
    unittest.main()
