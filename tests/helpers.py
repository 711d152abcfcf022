"""What several tests need: written-out steps by another way than the package's, and odd values."""

import itertools
import random

from plotpens.errors import TooLarge


class Same:
    """A value that says it is equal to every other one."""

    def __eq__(self, other):
        return True


WRONG_VALUES = [None, True, False, 0, 5, -1, 10 ** 99, b"f", ["f"], ("f",), {"f": 1}, {"f"}, object(), len, ValueError,
                Same()]
STEPS = "fblrud"


def inner_repeat(words):
    """The places of a repeat without repeats in it, or None."""
    start = None
    for at, word in enumerate(words):
        if word == "(":
            start = at
        elif word.startswith(")"):
            return None if start is None else (start, at)
    return None


def number_in(word):
    return int(word[1:] or "1")


def is_text(words):
    """Whether short words are those of a program text: repeats are replaced by a letter until none is left."""
    words = list(words)
    while True:
        found = inner_repeat(words)
        if found is None:
            return all(is_plain(word) for word in words)
        start, end = found
        inside = words[start + 1:end]
        if not inside or not all(is_plain(word) for word in inside) or not is_plain("f" + words[end][1:]):
            return False
        if words[end] == ")":
            return False
        words[start:end + 1] = ["f"]


def is_plain(word):
    if word in list(STEPS):
        return True
    return word != "" and word[0] in STEPS and word[1:] in [str(number) for number in range(2, 100)]


def can_go_on(words):
    """Whether a program text begins with short words."""
    endings = [["f"] * body + [")2"] * closed for body in range(2) for closed in range(8)]
    return any(is_text(list(words) + ending) for ending in endings)


def first_wrong(words):
    """The index of InvalidText for short words, None for a program text."""
    for at in range(len(words)):
        if not can_go_on(words[:at + 1]):
            return at
    return None if is_text(words) else len(words)


def all_steps(text):
    """All steps of a short program, written out from the innermost repeats on."""
    words = text.split(" ") if text else []
    while True:
        found = inner_repeat(words)
        if found is None:
            return "".join(word[0] * number_in(word) for word in words)
        start, end = found
        words[start:end + 1] = words[start + 1:end] * number_in(words[end])


def short_texts():
    """Program texts of up to six words, of all kinds of words."""
    kinds = ["f", "l2", "u", "(", ")3"]
    found = []
    for many in range(7):
        for words in itertools.product(kinds, repeat=many):
            if is_text(words):
                found.append(" ".join(words))
    return found


def nested(depth, inside="f", number=2):
    """A text with repeats nested so deep."""
    return " ".join(["("] * depth + [inside] + [f"){number}"] * depth)


class Whole(int):
    """An integer of a kind of its own."""


WRONG_POINTS = WRONG_VALUES + ["ab", "", [0, 0], (), (0,), (0, 0, 0), (True, 0), (0, False), (None, 0), (0, "0"), ((0, 0),),
                               (0, b"0"), ([0], 0), {0: 0, 1: 1}, ((0, 0), (0, 0)), [(0, 0)], (Same(), 0), (0, Same())]
WRONG_POSES = WRONG_VALUES + ["abc", "", [0, 0, 0], (), (0,), (0, 0), (0, 0, 0, 0), (True, 0, 0), (0, False, 0), (0, 0, True),
                              (0, 0, False), (0, 0, -1), (0, 0, 4), (0, 0, 10 ** 99), (None, 0, 0), (0, "0", 0), (0, 0, "0"),
                              (0, 0, None), ((0, 0), 0), ([0], 0, 0), (0, 0, Same()), (Same(), 0, 0), {0: 0, 1: 1, 2: 2}]
WRONG_EDGES = WRONG_VALUES + ["abc", "", [0, 0, 0], (), (0,), (0, 0), (0, 0, 0, 0), (True, 0, 0), (0, False, 0), (0, 0, True),
                              (0, 0, False), (0, 0, -1), (0, 0, 2), (0, 0, 10 ** 99), (None, 0, 0), (0, "0", 0), (0, 0, "0"),
                              (0, 0, None), ((0, 0), 0), ([0], 0, 0), (0, 0, Same()), (Same(), 0, 0),
                              ((0, 0), (1, 0)), [(0, 0, 0)]]
WORDS = ["f", "f2", "f3", "b", "b2", "l", "r", "l2", "r3", "u", "d", "d2", "u2"]


def walk(steps, start=(0, 0, 0), pen=True):
    """All that is so after each number of steps, from 0 on: x, y, heading, whether the pen is down."""
    x, y, heading = start
    found = [(x, y, heading, pen)]
    for step in steps:
        way = {0: 1, 1: 1j, 2: -1, 3: -1j}[heading]
        if step == "f":
            x, y = x + int(way.real), y + int(way.imag)
        elif step == "b":
            x, y = x - int(way.real), y - int(way.imag)
        elif step == "l":
            heading = 0 if heading == 3 else heading + 1
        elif step == "r":
            heading = 3 if heading == 0 else heading - 1
        else:
            pen = step == "d"
        found.append((x, y, heading, pen))
    return found


def edges_passed(steps, start=(0, 0, 0), pen=True):
    """The edges that are passed with the pen down, in order, each as often as it is passed."""
    found = []
    rows = walk(steps, start, pen)
    for (x, y, _, down), (next_x, next_y, _, _) in zip(rows, rows[1:]):
        if down and (x, y) != (next_x, next_y):
            found.append((min(x, next_x), min(y, next_y), int(x == next_x)))
    return found


def odd_ones(values):
    """The ascending list of what stands in a list an odd number of times."""
    return sorted(value for value in set(values) if values.count(value) % 2 == 1)


def some_texts(seed, many, most_words=14):
    """Program texts of all kinds of steps and repeats, always the same ones."""
    chance = random.Random(seed)
    found = []
    while len(found) < many:
        words = [chance.choice(WORDS) for _ in range(chance.randrange(most_words + 1))]
        for _ in range(chance.randrange(3)):
            start = chance.randrange(len(words) + 1)
            end = chance.randrange(start, len(words) + 1)
            words[start:end] = ["("] + words[start:end] + [f"){chance.randrange(2, 4)}"]
        if is_text(words):
            found.append(" ".join(words))
    return found


def check_errors(test, call, parameters):
    """Each parameter is a good value, its wrong values and their error: the first wrong one counts, whatever is behind."""
    for at, (_, wrong_values, error) in enumerate(parameters):
        front = [good for good, _, _ in parameters[:at]]
        behind = [good for good, _, _ in parameters[at + 1:]]
        also_wrong = [wrong[0] for _, wrong, _ in parameters[at + 1:]]
        for value in wrong_values:
            for rest in [behind, also_wrong]:
                with test.subTest(at=at, value=repr(value)[:80]), test.assertRaises(error):
                    call(*front, value, *rest)
    call(*[good for good, _, _ in parameters])


def check_too_large(test, limit, call):
    with test.assertRaises(TooLarge) as caught:
        call()
    test.assertEqual(caught.exception.limit, limit)


def ends(edge):
    """The two points at which an edge ends."""
    x, y, side = edge
    return {0: ((x, y), (x + 1, y)), 1: ((x, y), (x, y + 1))}[side]


def edge_of_ends(one, two):
    """The edge between two neighbours."""
    (x, y), (last_x, _) = sorted([one, two])
    return (x, y, 1 if last_x == x else 0)


def all_ends(edges):
    """The points at which edges end, each as often as it is one."""
    return [point for edge in edges for point in ends(edge)]


def groups_of(edges):
    """The edges that hang together, as ascending lists: lists that have a point in common are put together."""
    groups = []
    for edge in edges:
        touching = [group for group in groups if set(all_ends(group)) & set(ends(edge))]
        groups = [group for group in groups if group not in touching] + [sum(touching, []) + [edge]]
    return sorted(sorted(group) for group in groups)


def edges_of_strokes(strokes):
    """The edges that strokes pass, each as often as it is passed."""
    return [edge_of_ends(one, two) for stroke in strokes for one, two in zip(stroke, stroke[1:])]


def all_edges(width, height):
    """All edges between the points of a box."""
    flat = [(x, y, 0) for x in range(width) for y in range(height + 1)]
    return sorted(flat + [(x, y, 1) for x in range(width + 1) for y in range(height)])


def some_sets(seed, many, values):
    """Lists of different values, of all sizes, always the same ones."""
    chance = random.Random(seed)
    return [chance.sample(values, chance.randrange(len(values) + 1)) for _ in range(many)]


def all_sets(values):
    return [list(chosen) for many in range(len(values) + 1) for chosen in itertools.combinations(values, many)]


def grid_of_faces(width, height):
    return [(x, y) for x in range(width) for y in range(height)]


def passed_in_rounds(steps, times):
    """For each of so many rounds, performed one behind the other, the edges that are passed in it."""
    found = []
    pose = (0, 0, 0)
    for _ in range(times):
        found.append(edges_passed(steps, pose, True))
        pose = walk(steps, pose, True)[-1][:3]
    return found


def toggled(passed):
    """The set of the edges that are left if edges are toggled one by one."""
    left = set()
    for edge in passed:
        left ^= {edge}
    return left


def drawn_in_rounds(steps, times):
    """The edges of the picture after so many rounds, as a set."""
    return toggled([edge for edges in passed_in_rounds(steps, times) for edge in edges])


# Rounds that drift along, across, backwards and slanting, some with the pen lifted at the end, in parts or throughout.
DRIFTING = ["f", "f2 b", "f l f2 r", "u f d f", "( f2 l )4 u f", "f3 b2", "f2 b f b f", "b2 f", "b", "b3 u b", "l f r", "l f2 b r",
            "r f3 b u f r3", "f l f r", "f l2 f3 l2", "f r f l", "f2 l f r b", "( f l )4 f", "( f l )4 f2", "( f r )4 u f3",
            "( f3 l )4 u f d", "( f l )4 u l f r", "u f", "u f5 d u", "f4 u b3", "f5 b4", "f2 u f2 d f2 u b5",
            "l f2 r f u b2 d f2", "f3 l f r b2 l b r", "( f2 l f r )3 u", "f u f d b2 f3", "( f3 l )4 ( f l )4 u f l f r",
            "( f2 l )2 f u f d l f2 l u f3 d", "f10 b9", "l f3 l2 f r u f r2", "u f3 d ( f2 r )4 b u b"]
# Rounds that close after 1, 2 and 4 rounds.
CLOSING = ["", "l4", "f b", "( f l )4", "( f2 l )4 u", "f2 b2 u", "u", "f l f l f l f l", "f l2", "f2 l2 u", "f l f l", "f3 l f l2 f l3",
           "l2", "u f r f r d", "f l", "f2 l", "f r", "f3 r u", "l", "f l f", "u f2 d f l f", "b2 r f", "f5 l f2 b", "( f l )3",
           "( f2 l )2 f3 l f l3", "f l f2 l3 l2 f"]
