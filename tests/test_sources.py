"""read_source, routine and names_of."""

import unittest

from helpers import WRONG_VALUES, nested
from plotpens.errors import InvalidName, InvalidSource, TooDeep, TooLarge
from plotpens.programs import Program
from plotpens.sources import names_of, read_source, routine

# Names of two letters each, for sources of many lines.
NAMES = ["a" + letter for letter in "abcdefghijklmnopqrstuvwxyz"]


def text_of(source):
    program = read_source(source)
    assert isinstance(program, Program)
    return program.text


def chain(lines, body, last):
    """A source of many lines: each line but the first one has the line in front twice, the last one is given."""
    rows = [NAMES[0] + ": " + body]
    for at in range(1, lines - 1):
        rows.append(f"{NAMES[at]}: {NAMES[at - 1]} {NAMES[at - 1]}")
    return "\n".join(rows + [last])


class ReadTest(unittest.TestCase):
    def test_one_line(self):
        for text in ["", "f", "( f2 l )4 u", nested(12), " ".join(["f"] * 1000)]:
            self.assertEqual(text_of(text), text)
            self.assertEqual(names_of(text), [])

    def test_several_lines(self):
        source = "one: f l\ntwo: u\nend: r2\ntwo one end one"
        self.assertEqual(text_of(source), "u f l r2 f l")
        self.assertEqual([routine(source, name).text for name in ["one", "two", "end"]], ["f l", "u", "r2"])
        self.assertEqual(names_of(source), ["one", "two", "end"])

    def test_names_within_repeats(self):
        source = "side: f ( l )2\nroom: ( side u ( side )3 )4\n( room )2"
        self.assertEqual(routine(source, "room").text, "( f ( l )2 u ( f ( l )2 )3 )4")
        self.assertEqual(text_of(source), "( ( f ( l )2 u ( f ( l )2 )3 )4 )2")

    def test_names_are_in_order_of_their_lines(self):
        self.assertEqual(names_of("zz: f\nab: l\nmm: u\nf"), ["zz", "ab", "mm"])

    def test_last_line_without_names_and_without_words(self):
        self.assertEqual(text_of("side: f2\nl"), "l")
        self.assertEqual(text_of("side: f2\n"), "")
        self.assertEqual(names_of("side: f2\n"), ["side"])

    def test_names_of_two_to_eight_letters(self):
        source = "ab: f\nabcdefgh: l ab\nff: b\nff abcdefgh"
        self.assertEqual(text_of(source), "b l f")
        self.assertEqual(names_of(source), ["ab", "abcdefgh", "ff"])

    def test_programs_equal_those_of_their_texts(self):
        self.assertEqual(read_source("side: f2 l\n( side )4"), Program("( f2 l )4"))
        self.assertEqual(routine("side: f2 l\nside", "side"), Program("f2 l"))

    def test_twenty_lines(self):
        source = chain(20, "f", NAMES[3])
        self.assertEqual(text_of(source), " ".join(["f"] * 8))
        self.assertEqual(names_of(source), NAMES[:19])

    def test_the_list_is_new(self):
        source = "side: f\nside"
        names_of(source).append("wall")
        self.assertEqual(names_of(source), ["side"])
        self.assertIsNot(names_of(source), names_of(source))


class WrongSourceTest(unittest.TestCase):
    def check(self, source, line, index):
        for run in [lambda: read_source(source), lambda: routine(source, "zz"), lambda: names_of(source)]:
            with self.subTest(source=repr(source)[:60]), self.assertRaises(InvalidSource) as caught:
                run()
            self.assertEqual((caught.exception.line, caught.exception.index), (line, index))

    def test_not_a_string(self):
        for value in WRONG_VALUES + [["side: f", "side"], Program("f")]:
            self.check(value, None, None)

    def test_wrong_beginning_of_a_line(self):
        for word in ["side", "f", ":", "a:", "abcdefghi:", "Side:", "siDe:", "side1:", "si-de:", "side::", ":side", "si:de",
                     "side;", "", "(", "x", "2:", "s\u00efde:", "\u0441\u0434:", "\u00aa\u00aa:"]:
            self.check(f"{word} f\nf", 0, 0)
            self.check(f"one: f\n{word} f\nf", 1, 0)

    def test_beginning_alone(self):
        self.check("side:\nf", 0, 1)
        self.check("side: \nf", 0, 1)
        self.check("one: f\nside:\nf", 1, 1)

    def test_empty_lines(self):
        self.check("\n", 0, 0)
        self.check("\nf", 0, 0)
        self.check("one: f\n\none", 1, 0)
        self.check("one: f\none\n", 1, 0)

    def test_names_that_are_not_different(self):
        self.check("one: f\none: l\nf", 1, 0)
        self.check("one: f\ntwo: l\none: one x\nf", 2, 0)

    def test_last_line_with_a_name(self):
        self.check("side: f", 0, 0)
        self.check("one: f\nside: f", 1, 0)

    def test_names_that_are_not_of_earlier_lines(self):
        self.check("one: f two\ntwo: l\ntwo", 0, 2)
        self.check("one: one\none", 0, 1)
        self.check("one: f\ntwo", 1, 0)
        self.check("one", 0, 0)

    def test_names_with_something_beside_them(self):
        for word in ["one2", "2one", "one:", "one,", "One", "oneone", "(one)"]:
            self.check(f"one: f\nf {word}", 1, 1)
            self.check(f"one: f\ntwo: f {word}\nf", 1, 2)

    def test_words_are_those_of_program_texts(self):
        for text, index in [("f x", 1), ("( f", 2), ("f )2", 1), ("( )2", 1), ("f1", 0), ("f  f", 1), ("f ", 1),
                            (nested(13), 12), ("( one ( )2 )2", 3), ("( one", 2), ("( ( one )2", 4)]:
            self.check("one: f\n" + text, 1, index)
            self.check("one: f\ntwo: " + text + "\none", 1, index + 1)

    def test_spaces_at_an_end(self):
        self.check(" side: f\nf", 0, 0)
        self.check("side:  f\nf", 0, 1)
        self.check("side: f \nf", 0, 2)
        self.check("side: f\nf ", 1, 1)
        self.check("side: f\n ", 1, 0)

    def test_other_ends_of_lines(self):
        self.check("side: f\r\nf", 0, 1)
        self.check("side: f\u2028f", 0, 0)

    def test_the_first_wrong_line_counts(self):
        self.check("one: f\ntwo: x\nthree y", 1, 1)
        self.check("one: x\n\n\n", 0, 1)

    def test_words_of_a_line(self):
        for word in ["f", "one"]:
            self.assertEqual(len(read_source("one: l\n" + " ".join([word] * 1000))), 1000)
            self.check("one: l\n" + " ".join([word] * 1001), 1, 1000)
            self.assertEqual(names_of("one: l\ntwo: " + " ".join([word] * 1000) + "\nf"), ["one", "two"])
            self.check("one: l\ntwo: " + " ".join([word] * 1001) + "\nf", 1, 1001)

    def test_brackets_that_cannot_be_closed_any_more(self):
        words = " ".join(["("] + ["f"] * 999)
        self.check(words, 0, 999)
        self.check("one: " + words + "\nf", 0, 1000)
        fitting = " ".join(["("] + ["f"] * 998)
        self.check(fitting, 0, 999)
        self.check("one: " + fitting + "\nf", 0, 1000)
        self.check("one: " + " ".join(["f"] * 998 + ["(", "f", ")2"]) + "\nf", 0, 999)

    def test_twenty_one_lines(self):
        self.check(chain(21, "f", "f"), 20, 0)
        self.check(chain(21, "f", ""), 20, 0)
        self.check(chain(25, "f", "x"), 20, 0)

    def test_lines_in_front_of_the_21st_come_first(self):
        rows = chain(21, "f", "f").split("\n")
        for at, row, index in [(0, "aa: x", 1), (19, "at: f x", 2), (19, "f", 0), (19, "", 0), (7, "aa: f", 0)]:
            self.check("\n".join(rows[:at] + [row] + rows[at + 1:]), at, index)
        self.check("\n" * 30, 0, 0)


class NameTest(unittest.TestCase):
    def test_not_a_name(self):
        for value in WRONG_VALUES + ["", "f", "sid", "side:", "Side", "side f", "two", Program("f")]:
            with self.assertRaises(InvalidName):
                routine("side: f\nside", value)
            with self.assertRaises(InvalidName):
                routine("f", value)

    def test_behind_the_errors_of_the_source(self):
        with self.assertRaises(InvalidSource):
            routine("side: f\nx", "none")

    def test_in_front_of_the_errors_of_the_program(self):
        with self.assertRaises(InvalidName):
            routine(chain(20, "f", "as as"), "none")


class LimitsTest(unittest.TestCase):
    def check(self, kind, limit, run):
        with self.assertRaises(kind) as caught:
            run()
        self.assertEqual(caught.exception.limit, limit)

    def test_number_of_words(self):
        ten = "ten: " + " ".join(["f"] * 10)
        hundred = ten + "\nhundred: " + " ".join(["ten"] * 10)
        source = hundred + "\nfull: " + " ".join(["hundred"] * 10) + "\nmore: full l\n"
        self.assertEqual(len(routine(source, "full")), 1000)
        self.check(TooLarge, 1000, lambda: routine(source, "more"))
        self.assertEqual(text_of(source + "full"), " ".join(["f"] * 1000))
        self.check(TooLarge, 1000, lambda: read_source(source + "full l"))
        self.check(TooLarge, 1000, lambda: read_source(source + "more"))
        self.assertEqual(text_of(source + "ten"), " ".join(["f"] * 10))
        self.assertEqual(len(read_source(hundred + "\n( " + " ".join(["hundred"] * 9) + " ten f2 )2")), 913)

    def test_brackets_are_words(self):
        source = "many: " + " ".join(["f"] * 998) + "\n"
        self.assertEqual(len(read_source(source + "( many )2")), 1000)
        self.check(TooLarge, 1000, lambda: read_source(source + "f ( many )2"))
        self.check(TooLarge, 1000, lambda: read_source(source + "( many f )2"))

    def test_depth(self):
        source = f"six: {nested(6)}\ntwelve: {nested(6, 'six')}\nmore: {nested(1, 'l twelve')}\n"
        self.assertEqual(routine(source, "twelve").text, nested(12))
        self.assertEqual(text_of(source + "twelve six"), nested(12) + " " + nested(6))
        self.check(TooDeep, 12, lambda: routine(source, "more"))
        self.check(TooDeep, 12, lambda: read_source(source + "( twelve )2"))
        self.check(TooDeep, 12, lambda: read_source(source + nested(7, "six")))
        self.assertEqual(read_source(source + nested(6, "six")).depth, 12)
        self.assertEqual(read_source(source + nested(12) + " twelve").depth, 12)
        self.assertEqual(text_of(source + "six l"), nested(6) + " l")

    def test_names_without_repeats_are_not_deep(self):
        source = f"one: f l\ntwo: one u\nfull: {nested(12, 'two')}\n"
        self.assertEqual(routine(source, "full").text, nested(12, "f l u"))
        self.assertEqual(text_of(source + nested(12, "one")), nested(12, "f l"))

    def test_own_repeats_of_a_line(self):
        self.assertEqual(names_of(f"one: {nested(12)}\ntwo: {nested(12, 'one')}\nf"), ["one", "two"])

    def test_words_come_before_depth(self):
        source = f"deep: {nested(12, ' '.join(['f'] * 974))}\nout: ( deep )2\nover: ( deep f )2\n"
        self.assertEqual(len(routine(source, "deep")), 998)
        self.check(TooDeep, 12, lambda: routine(source, "out"))
        self.check(TooLarge, 1000, lambda: routine(source, "over"))

    def test_other_lines_may_be_far_larger(self):
        rows = ["aa: " + " ".join(["f"] * 1000)]
        for at in range(1, 19):
            rows.append(NAMES[at] + ": " + " ".join([NAMES[at - 1]] * 1000))
        source = "\n".join(rows) + "\n"
        self.assertEqual(text_of(source + "l2"), "l2")
        self.assertEqual(len(read_source(source + "aa")), 1000)
        self.assertEqual(len(routine(source, "aa")), 1000)
        self.assertEqual(names_of(source), NAMES[:19])
        for name in ["ab", "as"]:
            self.check(TooLarge, 1000, lambda: routine(source, name))
            self.check(TooLarge, 1000, lambda: read_source(source + "f " + name))

    def test_other_lines_may_be_far_deeper(self):
        rows = ["aa: " + nested(12)]
        for at in range(1, 19):
            rows.append(NAMES[at] + ": " + nested(12, NAMES[at - 1], 10 ** 30))
        source = "\n".join(rows) + "\n"
        self.assertEqual(text_of(source + "l2"), "l2")
        self.assertEqual(text_of(source + "aa"), nested(12))
        for name in ["ab", "as"]:
            self.check(TooDeep, 12, lambda: routine(source, name))
            self.check(TooDeep, 12, lambda: read_source(source + "f " + name))

    def test_names_that_stand_for_names(self):
        rows = ["aa: f u"] + [f"{NAMES[at]}: {NAMES[at - 1]}" for at in range(1, 19)]
        self.assertEqual(text_of("\n".join(rows + ["( as )2"])), "( f u )2")


if __name__ == "__main__":
    unittest.main()
