"""show_art and read_art."""

import random
import unittest

from helpers import WRONG_VALUES, Same, all_edges, all_ends, all_sets, check_errors, check_too_large, grid_of_faces, some_sets
from plotpens.art import read_art, show_art
from plotpens.errors import InvalidArt, InvalidPicture
from plotpens.faces import outline_of
from plotpens.odds import degree_at
from plotpens.pictures import Picture, drawn
from plotpens.programs import Program

FAR = 10 ** 99
BLANK = Picture([])
# All pictures in a box of two faces, and some in greater ones.
SETS = all_sets(all_edges(2, 1)) + some_sets(191, 120, all_edges(3, 3)) + some_sets(192, 30, all_edges(7, 4))
WRONG_PICTURES = WRONG_VALUES + ["", [], (), [(0, 0, 0)], ((0, 0, 0),), (0, 0, 0), ["1-1"], Program("f")]
DRAWN = [edges for edges in SETS if edges]
NO_ARTS = WRONG_VALUES + [
    "", "1-1", (), ("1-1",), {"1-1"}, {"1-1": 1}, [None], [0], [True], [b"1-1"], [["1-1"]], [("1-1",)], [["1", "-", "1"]], [""],
    ["", ""], ["", "", ""], ["."], [" "], ["1"], ["0"], ["1-1", None], [None, "1-1"], ["1-1", "1-1"], ["1-1", "   ", "1-1", 5],
    ["1-1\n"], ["1-1 "], [" 1-1"], ["1-1 ."], [". 1-1"], ["1-2-1 "], ["1--1"], ["2-2"], ["1-0"], ["1 1"], ["1|1"], ["--1"],
    ["1--"], ["1-1", "   "], ["   ", "1-1"], ["1-1", "   ", ". ."], [". .", "   ", "1-1"], ["1-1", "", "1-1"], ["1-1", "  ", "1-1"],
    ["1-1", "    ", "1-1"], ["1-1", "   ", "1-1 "], ["1-1", "- -", "1-1"], ["1-1", " | ", "1-1"], ["1-1", "|  ", "1-1"],
    ["1", "-", "1"], ["1", " ", "1"], ["|", "1", "|"], ["1", "|"], ["|", "1"], ["1", "|", "1", ""], ["1", "|", "2", "|"],
    ["1", "|", "."], ["1 .", "|  ", "1 ."], [". 1", "  |", ". 1"], Same(), [Same()], ["1-1", Same()], ["1-a"], ["3-3"], ["x-x"],
    ["1-1"] * 81, ["1-1"] * 100, ["1-1" * 30], ["1" + "-2" * 40 + "-1"], ["1" + "-2" * 10 ** 4 + "-1"]]


def brute_art(edges):
    """The art by another way: a dict of signs by their places, from the lowest point on the left."""
    if not edges:
        return []
    points = all_ends(edges)
    left, low = min(x for x, _ in points), min(y for _, y in points)
    wide, high = max(x for x, _ in points) - left, max(y for _, y in points) - low
    signs = {(2 * x, 2 * y): "." for x in range(wide + 1) for y in range(high + 1)}
    for x, y in points:
        signs[2 * (x - left), 2 * (y - low)] = str(points.count((x, y)))
    for x, y, side in edges:
        signs[2 * (x - left) + 1 - side, 2 * (y - low) + side] = "-|"[side]
    return ["".join(signs.get((across, up), " ") for across in range(2 * wide + 1)) for up in range(2 * high, -1, -1)]


class ShowTest(unittest.TestCase):
    def test_pictures(self):
        for edges in SETS:
            self.assertEqual(show_art(Picture(edges)), brute_art(edges))

    def test_some(self):
        self.assertEqual(show_art(BLANK), [])
        self.assertEqual(show_art(Picture([(0, 0, 0)])), ["1-1"])
        self.assertEqual(show_art(Picture([(0, 0, 1)])), ["1", "|", "1"])
        self.assertEqual(show_art(Picture([(5, 5, 0), (7, 5, 0)])), ["1-1 1-1"])
        self.assertEqual(show_art(Picture([(0, 0, 1), (2, 2, 0)])), [". . 1-1", "       ", "1 . . .", "|      ", "1 . . ."])
        self.assertEqual(show_art(drawn(Program("f l f2 r"))), [". 1", "  |", ". 2", "  |", "1-2"])
        cross = Picture([(0, 0, 0), (-1, 0, 0), (0, 0, 1), (0, -1, 1)])
        self.assertEqual(show_art(cross), [". 1 .", "  |  ", "1-4-1", "  |  ", ". 1 ."])
        self.assertEqual(show_art(outline_of([(0, 0), (1, 0)])), ["2-2-2", "|   |", "2-2-2"])

    def test_the_place_does_not_matter(self):
        for edges in SETS[::7]:
            for dx, dy in [(1, 0), (0, -1), (-7, 5), (FAR, -FAR), (-FAR, FAR)]:
                self.assertEqual(show_art(Picture(edges).moved(dx, dy)), brute_art(edges))

    def test_boxes_of_forty(self):
        wide, high = Picture([(x, 0, 0) for x in range(40)]), Picture([(0, y, 1) for y in range(40)])
        self.assertEqual(show_art(wide), ["1" + "-2" * 39 + "-1"])
        self.assertEqual(show_art(high), ["1"] + ["|", "2"] * 39 + ["|", "1"])
        both = show_art(wide ^ high)
        self.assertEqual((len(both), len(both[0]), both[0], both[80]), (81, 81, "1" + " ." * 40, "2" + "-2" * 39 + "-1"))
        full = Picture(all_edges(40, 40))
        self.assertEqual(show_art(full)[2], "3" + "-4" * 39 + "-3")
        for far in [(3, FAR), (-FAR, -FAR)]:
            self.assertEqual(show_art((wide ^ high).moved(*far)), both)

    def test_boxes_of_forty_one(self):
        for edges in [[(x, 0, 0) for x in range(41)], [(0, y, 1) for y in range(41)], [(0, 0, 0), (40, 0, 0)],
                      [(0, 0, 1), (0, 40, 1)], [(0, 0, 0), (41, 0, 1)], [(0, 0, 1), (5, 41, 0)], [(0, 0, 0), (FAR, 0, 0)],
                      [(0, FAR, 0), (0, -FAR, 0)], [(0, 0, 0), (50, 50, 1)]]:
            for dx in [0, -20, FAR]:
                check_too_large(self, 40, lambda: show_art(Picture(edges).moved(dx, -dx)))
        self.assertEqual(show_art(Picture([(0, 0, 0), (39, 0, 0)])), ["1-1" + " ." * 37 + " 1-1"])

    def test_the_list_is_new(self):
        picture = drawn(Program("f"))
        show_art(picture).append("x")
        self.assertEqual(show_art(picture), ["1-1"])

    def test_errors(self):
        check_errors(self, show_art, [(drawn(Program("f")), WRONG_PICTURES, InvalidPicture)])


class ReadTest(unittest.TestCase):
    def test_there_and_back(self):
        for edges in SETS:
            picture = Picture(edges)
            found = read_art(show_art(picture))
            if edges:
                left = min(x for x, _ in all_ends(edges))
                low = min(y for _, y in all_ends(edges))
                picture = picture.moved(-left, -low)
            self.assertEqual(found, picture)
            self.assertEqual(show_art(found), show_art(picture))

    def test_least_coordinates(self):
        for edges in DRAWN[::5]:
            points = all_ends(read_art(show_art(Picture(edges).moved(FAR, -FAR))).edges)
            self.assertEqual((min(x for x, _ in points), min(y for _, y in points)), (0, 0))

    def test_large_ones(self):
        full = Picture(all_edges(40, 40))
        self.assertEqual(read_art(show_art(full)), full)
        corners = outline_of([(0, 0), (39, 39), (0, 39), (39, 0)])
        self.assertEqual(read_art(show_art(corners.moved(-FAR, 7))), corners)
        board = outline_of([(x, y) for x, y in grid_of_faces(40, 40) if (x + y) % 2 == 0])
        self.assertEqual(read_art(show_art(board)), board)

    def test_some(self):
        self.assertEqual(read_art([]), BLANK)
        self.assertEqual(read_art(["1-1"]).edges, ((0, 0, 0),))
        self.assertEqual(read_art(["1", "|", "1"]).edges, ((0, 0, 1),))
        self.assertEqual(read_art(["1 1-1", "|    ", "1 . ."]).edges, ((0, 0, 1), (1, 1, 0)))

    def test_what_is_no_art(self):
        for value in NO_ARTS:
            with self.subTest(value=repr(value)[:80]), self.assertRaises(InvalidArt):
                read_art(value)

    def test_too_large_arts(self):
        wide = ["1" + "-2" * 40 + "-1"]
        high = ["1"] + ["|", "2"] * 40 + ["|", "1"]
        for rows in [wide, high, wide * 3, high * 3]:
            self.assertRaises(InvalidArt, read_art, rows)
        self.assertEqual(len(read_art(["1" + "-2" * 39 + "-1"])), 40)
        self.assertEqual(len(read_art(["1"] + ["|", "2"] * 39 + ["|", "1"])), 40)

    def test_one_sign_changed(self):
        for edges in DRAWN[::9]:
            art = show_art(Picture(edges))
            for at, row in enumerate(art):
                for place in range(len(row)):
                    for sign in ".-| 01234x":
                        changed = art[:at] + [row[:place] + sign + row[place + 1:]] + art[at + 1:]
                        if changed != art:
                            self.assertRaises(InvalidArt, read_art, changed)

    def test_signs_and_rows_added_and_removed(self):
        chance = random.Random(193)
        for edges in DRAWN[::4]:
            art = show_art(Picture(edges))
            at = chance.randrange(len(art))
            row = art[at]
            place = chance.randrange(len(row) + 1)
            changes = [art[:at] + [row[:place] + " " + row[place:]] + art[at + 1:], art[:at] + [row[:-1]] + art[at + 1:],
                       art[:at] + [row[1:]] + art[at + 1:], art[:at] + art[at + 1:], art[:at] + [row] + art[at:], art + [art[0]],
                       art + [" " * len(row)], [" " * len(row)] + art, [row + " " for row in art], [" " + row for row in art],
                       [row + " ." if at % 2 == 0 else row + "  " for at, row in enumerate(art)], art + [""], [""] + art,
                       [" " * len(row), "." + " ." * (len(row) // 2)] + art, art + [" " * len(row), "." + " ." * (len(row) // 2)]]
            for changed in changes:
                try:
                    found = read_art(changed)
                except InvalidArt:
                    continue
                # What is left may be the art of a smaller picture.
                self.assertEqual(brute_art(found.edges), changed)

    def test_rows_around_an_art(self):
        for edges in DRAWN[::6]:
            art = show_art(Picture(edges))
            wide = len(art[0])
            blank = [" " * wide, "." + " ." * (wide // 2)]
            for changed in [blank[::-1] + art, art + blank, [row + "  " for row in art], [" " + row for row in art],
                            [row + (" ." if at % 2 == 0 else "  ") for at, row in enumerate(art)], art + [""], [""] + art,
                            [row + "\n" for row in art], tuple(art), "\n".join(art), [list(row) for row in art],
                            [row.encode() for row in art], art + [None]]:
                self.assertRaises(InvalidArt, read_art, changed)

    def test_the_list_stays_as_it_was(self):
        art = ["2-2", "| |", "2-2"]
        read_art(art)
        self.assertEqual(art, ["2-2", "| |", "2-2"])

    def test_kinds_of_values(self):
        art = show_art(drawn(Program("f l f")))
        self.assertIs(type(art), list)
        self.assertEqual({type(row) for row in art}, {str})
        self.assertIs(type(read_art(art)), Picture)


if __name__ == "__main__":
    unittest.main()
