"""covered, odd_covered and depth_at."""

import itertools
import random
import unittest

from helpers import WRONG_POINTS, WRONG_VALUES, Same, Whole, check_errors
from plotpens.errors import InvalidIntervals, InvalidPlace
from plotpens.spans import covered, depth_at, odd_covered

FAR = 10 ** 100 - 1
SMALL = [(start, end) for start in range(4) for end in range(start + 1, 5)]
NOT_INTERVALS = WRONG_VALUES[:-1] + [
    "", "ab", (), ((0, 1),), {(0, 1)}, {(0, 1): 1}, (0, 1), [0, 1], [[0, 1]], [(0, 1), [0, 1]], [(0,)], [()], [(0, 1, 2)],
    [(0, 1), (0, 1, 2)], ["ab"], [b"ab"], [None], [(None, 1)], [(0, None)], [("0", "1")], [(0, "1")], [(True, 2)],
    [(False, True)], [(-1, False)], [(0, True)], [(0, 0)], [(1, 0)], [(0, 1), (5, 5)], [(0, 1), (5, 4)], [(FAR, -FAR)],
    [(FAR, FAR)], [(0, 1), None], [[(0, 1)]], [((0, 1), (2, 3))], [(Same(), 1)], [(0, Same())], [Same()], Same(),
    [object()], range(3), [(0, 1), (0, 1), (2, 1)], [{0: 1}], [{0, 1}], iter([(0, 1)])]
WRONG_PLACES = [None, True, False, "", "5", b"5", [5], (5,), [], (), {5}, {5: 5}, object(), len, Same(), (0, 1), [(0, 1)]]


def brute_depths(intervals, places):
    """For each place the number of the intervals that hold it."""
    return [sum(place in range(start, end) for start, end in intervals) for place in places]


def by_pieces(intervals):
    """The numbers covered and odd_covered, from the pieces between neighbouring ends."""
    ends = sorted({end for interval in intervals for end in interval})
    some, odd = 0, 0
    for left, right in zip(ends, ends[1:]):
        depth = len([1 for start, end in intervals if start <= left and right <= end])
        some += (right - left) * (depth > 0)
        odd += (right - left) * (depth % 2)
    return some, odd


class SmallTest(unittest.TestCase):
    def check(self, intervals, places):
        depths = brute_depths(intervals, places)
        self.assertEqual(covered(intervals), sum(depth > 0 for depth in depths), intervals)
        self.assertEqual(odd_covered(intervals), sum(depth % 2 == 1 for depth in depths), intervals)
        for place, depth in zip(places, depths):
            self.assertEqual(depth_at(intervals, place), depth)

    def test_one_two_and_three(self):
        for many in range(4):
            for intervals in itertools.product(SMALL, repeat=many):
                self.check(list(intervals), range(-1, 6))

    def test_many_that_are_small(self):
        chance = random.Random(131)
        for _ in range(150):
            starts = [chance.randrange(-30, 30) for _ in range(chance.randrange(4, 40))]
            self.check([(start, start + chance.randrange(1, 12)) for start in starts], range(-32, 44))

    def test_in_one_another_touching_and_with_a_common_end(self):
        self.check([(0, 10), (3, 5)], range(-1, 12))
        self.check([(0, 10), (3, 5), (4, 5), (3, 4)], range(-1, 12))
        self.check([(0, 5), (5, 9)], range(-1, 12))
        self.check([(5, 9), (0, 5), (9, 10)], range(-1, 12))
        self.check([(0, 5), (0, 9)], range(-1, 12))
        self.check([(0, 9), (4, 9)], range(-1, 12))
        self.check([(0, 5), (6, 9)], range(-1, 12))
        self.check([(-3, 0), (0, 1), (-3, 1)], range(-5, 4))

    def test_equal_intervals(self):
        for many in range(1, 7):
            self.assertEqual(covered([(2, 7)] * many), 5)
            self.assertEqual(odd_covered([(2, 7)] * many), 5 * (many % 2))
            self.assertEqual([depth_at([(2, 7)] * many, place) for place in [1, 2, 6, 7]], [0, many, many, 0])
        self.check([(0, 4), (2, 6), (0, 4), (2, 6), (2, 6)], range(-1, 8))

    def test_the_order_does_not_matter(self):
        for chosen in itertools.combinations(SMALL, 4):
            first = [covered(list(chosen)), odd_covered(list(chosen)), depth_at(list(chosen), 2)]
            for turned in [chosen[::-1], chosen[2:] + chosen[:2], chosen[1:] + chosen[:1]]:
                self.assertEqual([covered(list(turned)), odd_covered(list(turned)), depth_at(list(turned), 2)], first)

    def test_no_intervals(self):
        self.assertEqual([covered([]), odd_covered([]), depth_at([], 0), depth_at([], -FAR)], [0, 0, 0, 0])


class FarTest(unittest.TestCase):
    def test_far_ones_by_pieces(self):
        chance = random.Random(132)
        for many in [1, 2, 3, 5, 8, 20, 60]:
            for reach in [10, 10 ** 4, 10 ** 30, FAR]:
                starts = [chance.randrange(-reach, reach) for _ in range(many)]
                intervals = [(start, start + chance.randrange(1, reach)) for start in starts]
                self.assertEqual((covered(intervals), odd_covered(intervals)), by_pieces(intervals))
                shifted = [(start + 10 ** 50, end + 10 ** 50) for start, end in intervals]
                self.assertEqual((covered(shifted), odd_covered(shifted)), by_pieces(intervals))

    def test_depths_beside_far_ends(self):
        intervals = [(-FAR, FAR), (-FAR, 0), (0, FAR), (10 ** 30, 10 ** 30 + 1), (-FAR, FAR)]
        found = [depth_at(intervals, place) for place in [-FAR - 1, -FAR, -1, 0, 10 ** 30 - 1, 10 ** 30, 10 ** 30 + 1, FAR - 1, FAR]]
        self.assertEqual(found, [0, 3, 3, 3, 3, 4, 3, 3, 0])
        self.assertEqual(covered(intervals), 2 * FAR)
        self.assertEqual(odd_covered(intervals), 2 * FAR - 1)

    def test_four_hundred(self):
        chance = random.Random(133)
        comb = [(3 * at, 3 * at + 2) for at in range(400)]
        self.assertEqual([covered(comb), odd_covered(comb), depth_at(comb, 1198), depth_at(comb, 1199)], [800, 800, 1, 0])
        nest = [(-at, at) for at in range(1, 401)]
        self.assertEqual([covered(nest), odd_covered(nest), depth_at(nest, 0), depth_at(nest, -399)], [800, 400, 400, 2])
        wide = [(at, at + 10 ** 30) for at in range(400)]
        self.assertEqual([covered(wide), odd_covered(wide), depth_at(wide, 399)], [10 ** 30 + 399, 400, 400])
        many = [(start, start + chance.randrange(1, 10 ** 40)) for start in [chance.randrange(10 ** 40) for _ in range(400)]]
        self.assertEqual((covered(many), odd_covered(many)), by_pieces(many))

    def test_equal_far_ones(self):
        self.assertEqual(odd_covered([(-FAR, FAR), (-FAR, FAR)]), 0)
        self.assertEqual(odd_covered([(-FAR, FAR), (-FAR, FAR), (-FAR, FAR)]), 2 * FAR)


class ConventionsTest(unittest.TestCase):
    def test_what_is_not_intervals(self):
        for value in NOT_INTERVALS:
            for call in [covered, odd_covered, lambda intervals: depth_at(intervals, 0), lambda intervals: depth_at(intervals, None)]:
                with self.subTest(value=repr(value)[:80]), self.assertRaises(InvalidIntervals):
                    call(value)
        for value in WRONG_POINTS:
            with self.subTest(value=repr(value)[:80]), self.assertRaises(InvalidIntervals):
                covered([(0, 1), value])

    def test_what_is_not_a_place(self):
        check_errors(self, depth_at, [([(0, 1)], NOT_INTERVALS[:-1], InvalidIntervals), (0, WRONG_PLACES, InvalidPlace)])
        with self.assertRaises(InvalidPlace):
            depth_at([], None)

    def test_integers_of_another_kind(self):
        self.assertEqual(covered([(Whole(0), Whole(5))]), 5)
        self.assertEqual(depth_at([(0, 5)], Whole(4)), 1)

    def test_the_list_stays_as_it_was(self):
        intervals = [(5, 9), (0, 6), (5, 9)]
        covered(intervals), odd_covered(intervals), depth_at(intervals, 3)
        self.assertEqual(intervals, [(5, 9), (0, 6), (5, 9)])

    def test_kinds_of_values(self):
        for value in [covered([(0, 1)]), odd_covered([(0, 1)]), depth_at([(0, 1)], 0), covered([]), odd_covered([])]:
            self.assertIs(type(value), int)


if __name__ == "__main__":
    unittest.main()
