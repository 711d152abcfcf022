"""program_for, fewest_words and packed."""

import itertools
import unittest

from helpers import (STEPS, WRONG_VALUES, all_edges, all_ends, all_sets, all_steps, check_errors, check_too_large, is_text,
                     nested, number_in, odd_ones, short_texts, some_sets, some_texts)
from plotpens.errors import InvalidPicture, InvalidProgram
from plotpens.faces import outline_of
from plotpens.paths import stretches_of
from plotpens.pictures import Picture, drawn
from plotpens.programs import Program, written
from plotpens.strokes import fewest_toggled
from plotpens.writing import fewest_words, packed, program_for

MOST = 10 ** 30
BLANK = Picture([])
ONE = Picture([(0, 0, 0)])
SQUARE = drawn(Program("( f l )4"))
SETS = all_sets(all_edges(2, 1)) + some_sets(51, 150, all_edges(3, 3)) + some_sets(52, 60, all_edges(4, 4))
MOVES = {0: (1, 0), 1: (0, 1), 2: (-1, 0), 3: (0, -1)}


def legs_of(text):
    """The straight ways of a text without repeats, from (0, 0, 0) with the pen up: where they begin and end, and a number
    that is the same for all of one stretch."""
    x, y, heading, down, lifts = 0, 0, 0, False, 0
    found = []
    for word in text.split():
        letter, number = word[0], number_in(word)
        if letter in "fb":
            dx, dy = MOVES[heading]
            number = number if letter == "f" else -number
            if down:
                found.append(((x, y), (x + dx * number, y + dy * number), lifts))
            x, y = x + dx * number, y + dy * number
        elif letter in "lr":
            heading = (heading + (number if letter == "l" else -number)) % 4
        else:
            down = letter == "d"
            lifts = lifts + (letter == "u")
    return found


def edges_of_legs(legs):
    """The edges that are passed an odd number of times, from the places on each line where this changes."""
    lines = {}
    for (x, y), (last_x, last_y), _ in legs:
        line = ("row", y) if y == last_y else ("column", x)
        lines.setdefault(line, []).extend([x, last_x] if y == last_y else [y, last_y])
    found = []
    for (kind, place), changes in lines.items():
        odd = odd_ones(changes)
        for start, end in zip(odd[::2], odd[1::2]):
            assert end - start < 1000
            found.extend((at, place, 0) if kind == "row" else (place, at, 1) for at in range(start, end))
    return sorted(found)


class ProgramForTest(unittest.TestCase):
    def check(self, picture):
        program = program_for(picture)
        self.assertIs(type(program), Program)
        self.assertNotIn("(", program.text)
        legs = legs_of(program.text)
        self.assertEqual(edges_of_legs(legs), list(picture.edges))
        expected = max(1, len(odd_ones(all_ends(picture.edges))) // 2) if picture.edges else 0
        self.assertEqual(len({lifts for _, _, lifts in legs}), expected)
        self.assertEqual(expected, fewest_toggled(picture))
        if program.length <= 1000:
            self.assertEqual(drawn(program, pen=False), picture)
            self.assertEqual(len(stretches_of(program, pen=False)), expected)

    def test_small_pictures(self):
        for edges in SETS:
            self.check(Picture(edges))

    def test_the_blank_picture(self):
        self.assertEqual(program_for(BLANK), Program(""))

    def test_in_one_part(self):
        for text in ["f", "b", "l f", "r f", "f l f2 r f3", "( f l )4", "( f2 l )4 f l f r f", "f9 l f8 l f7 l f6 l f5"]:
            for start in [(0, 0, 0), (5, -7, 1), (-30, 20, 2), (0, -3, 3)]:
                self.check(drawn(Program(text), start=start))

    def test_in_several_parts(self):
        for dx, dy in itertools.product([-9, -1, 1, 2, 30], [-40, 0, 3]):
            self.check(ONE ^ ONE.moved(dx, dy + 1) ^ SQUARE.moved(2 * dx, -dy))
            self.check(SQUARE ^ SQUARE.moved(dx, dy) ^ SQUARE.moved(-dy, dx))

    def test_far_parts(self):
        corners = [(-MOST, -MOST), (MOST - 1, MOST - 1), (-MOST, MOST - 1), (MOST - 1, -MOST), (0, 0)]
        for one, two in itertools.product(corners, corners):
            self.check(SQUARE.moved(*one) ^ SQUARE.moved(*two))
            self.check(ONE.moved(*one) ^ SQUARE.moved(*two))
            self.check(ONE.moved(*one) ^ ONE.moved(*two))
        self.check(outline_of(corners))
        self.check(Picture([(x, y, side) for x, y in corners for side in range(2)]))

    def test_forty_edges(self):
        lines = Picture([(x, 0, 0) for x in range(40)])
        dots = Picture([(10 ** 20 * x, -10 ** 25 * x, x % 2) for x in range(40)])
        far_dots = Picture([((-1) ** x * (MOST - 7 * x), (-1) ** (x // 2) * (MOST - 5 * x), x % 2) for x in range(1, 41)])
        boxes = outline_of([((-1) ** x * (MOST - 7 * x), (-1) ** (x // 2) * (MOST - 5 * x)) for x in range(1, 11)])
        for picture in [lines, dots, far_dots, boxes, Picture(all_edges(4, 4))]:
            self.assertEqual(len(picture), 40)
            self.check(picture)

    def test_more_edges(self):
        for picture in [Picture([(x, 0, 0) for x in range(41)]), Picture(all_edges(5, 4)),
                        Picture([(x, MOST + 5, 0) for x in range(41)]), Picture([(x, 0, 0) for x in range(1500)])]:
            check_too_large(self, 40, lambda: program_for(picture))

    def test_at_the_bound(self):
        fitting = [(MOST - 1, 0, 0), (MOST, 0, 1), (0, MOST - 1, 1), (0, MOST, 0), (-MOST, 0, 0), (0, -MOST, 1), (-MOST, -MOST, 0),
                   (-MOST, -MOST, 1), (MOST, MOST - 1, 1), (MOST - 1, MOST, 0)]
        for edge in fitting:
            self.check(Picture([edge]))
            self.check(Picture([edge]) ^ SQUARE)
        self.check(Picture(fitting))

    def test_beyond_the_bound(self):
        for edge in [(MOST, 0, 0), (MOST + 1, 0, 1), (0, MOST, 1), (0, MOST + 1, 0), (-MOST - 1, 0, 0), (0, -MOST - 1, 1),
                     (0, -MOST - 1, 0), (-MOST - 1, 0, 1), (10 ** 99, 0, 0), (0, -10 ** 99, 1)]:
            for picture in [Picture([edge]), Picture([edge]) ^ SQUARE, Picture([edge] + [(x, 0, 0) for x in range(39)])]:
                check_too_large(self, MOST, lambda: program_for(picture))

    def test_errors(self):
        wrong = WRONG_VALUES + ["", [], (), [(0, 0, 0)], ((0, 0, 0),), (0, 0, 0), Program("f")]
        for good in [BLANK, ONE]:
            check_errors(self, program_for, [(good, wrong, InvalidPicture)])

    def test_the_picture_stays_as_it_was(self):
        picture = SQUARE ^ ONE.moved(7, 7)
        before = picture.edges
        self.assertEqual(program_for(picture), program_for(picture))
        self.assertEqual(picture.edges, before)


def fewest_by_steps(letters, longest, most_words):
    """All rows of steps up to a length that so many words can tell, with the least number of words."""
    by_words = {0: {""}, 1: {letter * many for letter in letters for many in range(1, longest + 1)}}
    fewest = {steps: many for many in [1, 0] for steps in by_words[many]}
    for words in range(2, most_words + 1):
        found = set()
        for front in range(1, words):
            found |= {one + two for one in by_words[front] for two in by_words[words - front] if len(one + two) <= longest}
        for times in range(2, longest + 1):
            found |= {inner * times for inner in by_words[words - 2] if inner and len(inner * times) <= longest}
        by_words[words] = {steps for steps in found if steps not in fewest}
        fewest.update({steps: words for steps in by_words[words]})
    return fewest


class PackingTest(unittest.TestCase):
    def check(self, steps, many):
        program = Program(" ".join(steps))
        self.assertEqual(fewest_words(program), many, steps)
        found = packed(program)
        self.assertEqual((all_steps(found.text), len(found)), (steps, many))

    def test_all_short_rows_of_two_letters_against_all_short_texts(self):
        words = ["f", "f2", "f3", "l", "l2", "(", ")2", ")3"]
        fewest = {}
        for many in range(6):
            for row in itertools.product(words, repeat=many):
                if is_text(row):
                    fewest.setdefault(all_steps(" ".join(row)), many)
        for many in range(6):
            for letters in itertools.product("fl", repeat=many):
                steps = "".join(letters)
                if "ffff" not in steps and "lll" not in steps:
                    self.assertEqual(fewest[steps], fewest_words(Program(" ".join(steps))))
        for steps, many in fewest.items():
            if len(steps) <= 60:
                self.assertLessEqual(fewest_words(Program(" ".join(steps))), many)

    def test_all_rows_of_two_letters_up_to_ten(self):
        fewest = fewest_by_steps("fl", 10, 10)
        self.assertEqual(len(fewest), 2 ** 11 - 1)
        for steps, many in fewest.items():
            self.check(steps, many)

    def test_all_rows_of_three_letters_up_to_six(self):
        fewest = fewest_by_steps("fud", 6, 6)
        self.assertEqual(len(fewest), (3 ** 7 - 1) // 2)
        for steps, many in fewest.items():
            self.check(steps, many)

    def test_some(self):
        cases = [("", 0), ("f", 1), ("f" * 60, 1), ("fl", 2), ("flfl", 4), ("flflfl", 4), ("flflflf", 5), ("fflffl", 4),
                 ("fflfflffl", 4), ("fblrud", 6), ("fblrud" * 10, 8), ("fl" * 30, 4), ("fl" * 15 + "lf" * 15, 8),
                 (("fl" * 3 + "u") * 4, 7), (("fl" * 3 + "u") * 4 + "d", 8), ((("fl" * 2 + "b") * 3 + "r") * 3, 10),
                 ("f" * 29 + "l" + "f" * 30, 3), ("flfflfflfflf", 5)]
        for steps, many in cases:
            self.check(steps, many)

    def test_repeats_in_repeats(self):
        program = Program("( f ( l b ( r u )3 )3 d )2")
        self.assertEqual(program.length, 52)
        self.assertEqual(fewest_words(program), 12)
        self.assertEqual(fewest_words(Program("( ( ( f l )3 u )3 d )2 b")), 11)
        self.assertEqual(fewest_words(Program(nested(4, "f l"))), 4)
        self.assertEqual(fewest_words(Program("( ( f l )2 b2 )9")), 7)

    def test_all_letters(self):
        for letters in itertools.permutations(STEPS):
            steps = "".join(letters)
            self.assertEqual(fewest_words(Program(" ".join(steps))), 6)
        for letter in STEPS:
            self.check(letter * 17, 1)
            self.check(letter * 3 + "".join(STEPS).replace(letter, "") * 2, 8)

    def test_never_more_words_than_before(self):
        for text in short_texts() + some_texts(55, 300, 10):
            program = Program(text)
            if program.length <= 60:
                self.assertLessEqual(fewest_words(program), len(program))
                self.assertEqual(written(packed(program)), all_steps(text))
                self.assertEqual(len(packed(program)), fewest_words(program))
                self.assertEqual(fewest_words(packed(program)), fewest_words(program))

    def test_the_empty_program(self):
        self.assertEqual(fewest_words(Program("")), 0)
        self.assertEqual(packed(Program("")), Program(""))

    def test_sixty_steps(self):
        for text in ["f60", "( f l )30", " ".join(["f", "l", "b"] * 20), "( f l2 )20", " ".join("fblrud"[at * at % 6] for at in
                                                                                            range(60))]:
            program = Program(text)
            self.assertEqual(program.length, 60)
            found = packed(program)
            self.assertEqual((written(found), len(found)), (written(program), fewest_words(program)))

    def test_more_steps(self):
        for text in ["f61", "( f l )30 f", " ".join(["f"] * 61), nested(12, "f", MOST), f"f{MOST}"]:
            check_too_large(self, 60, lambda: fewest_words(Program(text)))
            check_too_large(self, 60, lambda: packed(Program(text)))

    def test_errors(self):
        wrong = WRONG_VALUES + ["f", BLANK, [Program("f")]]
        check_errors(self, fewest_words, [(Program("f"), wrong, InvalidProgram)])
        check_errors(self, packed, [(Program("f"), wrong, InvalidProgram)])

    def test_the_program_stays_as_it_was(self):
        program = Program("f l f l f l")
        packed(program)
        self.assertEqual((program.text, program.length, len(program)), ("f l f l f l", 6, 6))


if __name__ == "__main__":
    unittest.main()
