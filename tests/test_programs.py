"""Program(text): which texts there are, the properties, len, in, == and !=."""

import itertools
import unittest

from helpers import STEPS, WRONG_VALUES, all_steps, first_wrong, nested, short_texts
from plotpens.errors import InvalidText
from plotpens.programs import Program

MOST = 10 ** 30


def index_of(text):
    """The index of InvalidText, or -1 if the text is a program text."""
    try:
        Program(text)
    except InvalidText as error:
        return error.index
    return -1


class TextTest(unittest.TestCase):
    def check(self, text, index):
        with self.subTest(text=text[:60]):
            self.assertEqual(index_of(text), index)

    def test_values_that_are_no_strings(self):
        for value in WRONG_VALUES + [Program("f"), 10 ** 5000]:
            self.assertIsNone(index_of(value))

    def test_every_kind_of_word(self):
        for text in ["", "f", "f b l r u d", "f2 b2 l2 r2 u2 d2", "( f )2", "( ( l )3 )2", "f ( u l2 )10 d"]:
            self.check(text, -1)
            self.assertEqual(Program(text).text, text)

    def test_all_short_rows_of_words(self):
        kinds = ["f", "u3", "(", ")2", "", "f1"]
        for many in range(1, 6):
            for words in itertools.product(kinds, repeat=many):
                wrong = first_wrong(words)
                if words == ("",):
                    wrong = None
                self.assertEqual(index_of(" ".join(words)), -1 if wrong is None else wrong, words)

    def test_spaces(self):
        for text, index in [(" ", 0), ("  ", 0), (" f", 0), ("f ", 1), ("f  l", 1), ("( f ", 2), ("( f )2 ", 3)]:
            self.check(text, index)

    def test_only_a_space_parts_words(self):
        for text, index in [("f\nl", 0), ("f\n", 0), ("f\tl", 0), ("l f\r", 1), ("\n", 0), ("f l2\n", 1)]:
            self.check(text, index)

    def test_words_that_are_none(self):
        for word in ["x", "F", "ff", "fb2", "2", "2f", "-f", "()", "(2", ")", "))2", "f,", "f2l", "fl", "ab:", "side"]:
            self.check(word, 0)
            self.check("l " + word, 1)
            self.check("( l " + word + " )2", 2)

    def test_numbers(self):
        for number in [2, 3, 10, 100, 99, MOST - 1, MOST]:
            self.check(f"f{number}", -1)
            self.check(f"( f l ){number}", -1)
            self.assertEqual(Program(f"f{number}").length, number)
        for number in ["1", "0", "00", "02", "01", "010", "+2", "-2", "2.0", "2 ", "1_0", "0x2", "2e1", str(MOST + 1),
                       "0" + str(MOST), "9" * 31, "9" * 32, "9" * 3900, "9" * 5000, "\u0662", "\u00b2", "2\u00b2"]:
            self.check(f"f{number}", 1 if number == "2 " else 0)
            self.check(f"( f l ){number}", 4 if number == "2 " else 3)

    def test_brackets(self):
        cases = [("(", 1), ("( (", 2), ("( f", 2), ("( ( f )2", 4), (")2", 0), ("f )2", 1), ("( f )2 )2", 3),
                 ("( )2", 1), ("f ( )2", 2), ("( f ( )2 )2", 3), ("( ( f )2 )2", -1), ("( f ) l", 2), ("( f l", 3)]
        for text, index in cases:
            self.check(text, index)

    def test_depth(self):
        self.check(nested(12), -1)
        self.check(nested(13), 12)
        self.check("f " + nested(13), 13)
        self.check(" ".join(["("] * 12), 12)
        self.check(" ".join(["("] * 13), 12)
        self.check(nested(12) + " " + nested(12), -1)
        self.check("( " + nested(11) + " " + nested(12) + " )2", 12 + 12 + 11)

    def test_number_of_words(self):
        self.check(" ".join(["f"] * 1000), -1)
        self.check(" ".join(["f"] * 1001), 1000)
        self.check(" ".join(["f"] * 5000), 1000)
        self.check(" ".join(["f"] * 1000) + " ", 1000)
        self.check(" ".join(["f"] * 997 + ["(", "f", ")2"]), -1)
        self.assertEqual(len(Program(" ".join(["f2"] * 1000))), 1000)

    def test_brackets_that_cannot_be_closed_any_more(self):
        self.check(" ".join(["("] + ["f"] * 998 + [")2"]), -1)
        self.check(" ".join(["("] + ["f"] * 999 + [")2"]), 999)
        self.check(" ".join(["("] + ["f"] * 999), 999)
        self.check(" ".join(["f"] * 997 + ["("]), 998)
        self.check(" ".join(["f"] * 998 + ["("]), 998)
        self.check(" ".join(["f"] * 998 + ["(", "f", ")2"]), 998)
        self.check(" ".join(["f"] * 999 + ["("]), 999)
        self.check(nested(12, " ".join(["f"] * 976)), -1)
        self.check(nested(12, " ".join(["f"] * 977)), 988)
        self.check(" ".join(["("] * 2 + ["f"] * 995 + ["(", "f", ")2", ")2", ")2"]), 997)

    def test_only_words_are_missing(self):
        self.check(" ".join(["("] + ["f"] * 998), 999)
        self.check(" ".join(["f"] * 997 + ["(", "f"]), 999)
        self.check(" ".join(["("] * 12 + ["f"] * 976), 988)

    def test_the_first_wrong_word_counts(self):
        self.check("f x ( )2 y", 1)
        self.check(" ".join(["x"] + ["f"] * 2000), 0)
        self.check(" ".join(["f"] * 1000 + ["x"]), 1000)


class PropertiesTest(unittest.TestCase):
    def test_short_programs(self):
        for text in short_texts():
            program = Program(text)
            self.assertEqual(program.text, text)
            self.assertEqual(program.length, len(all_steps(text)))
            self.assertEqual(len(program), len(text.split()))
            for letter in STEPS:
                self.assertIs(letter in program, letter in all_steps(text))

    def test_depth(self):
        cases = [("", 0), ("f l2", 0), ("( f )2", 1), ("( f )2 ( l )2", 1), ("( f ( l )2 )2 l", 2),
                 ("( ( f )2 l )2 ( f )2", 2), (nested(12), 12)]
        self.assertEqual([Program(text).depth for text, depth in cases], [depth for text, depth in cases])

    def test_great_lengths(self):
        program = Program(nested(12, f"f{MOST} l", MOST))
        self.assertEqual(program.length, (MOST + 1) * MOST ** 12)
        self.assertEqual(len(program), 26)

    def test_the_empty_program(self):
        program = Program("")
        self.assertEqual((program.text, program.length, program.depth, len(program)), ("", 0, 0, 0))

    def test_properties_cannot_be_assigned(self):
        program = Program("f l")
        for name in ["text", "length", "depth"]:
            with self.assertRaises(AttributeError):
                setattr(program, name, 3)
        self.assertEqual((program.text, program.length, program.depth), ("f l", 2, 0))

    def test_in_with_any_value(self):
        program = Program("( f l2 )3 u")
        self.assertEqual([letter for letter in STEPS if letter in program], ["f", "l", "u"])
        for value in WRONG_VALUES + ["", "fl", "l2", "(", ")3", "f l", "F", "x", " ", program]:
            self.assertIs(value in program, False)
        self.assertNotIn("f", Program(""))

    def test_equal(self):
        self.assertTrue(Program("f l") == Program("f l"))
        self.assertFalse(Program("f l") != Program("f l"))
        self.assertTrue(Program("") == Program(""))
        for other in ["f f", "l f", "f", ""]:
            self.assertFalse(Program("f2") == Program(other))
            self.assertTrue(Program("f2") != Program(other))

    def test_programs_with_equal_steps_differ_if_their_texts_differ(self):
        self.assertFalse(Program("f2") == Program("( f )2"))
        self.assertTrue(Program("f2") != Program("f f"))

    def test_not_equal_to_other_values(self):
        for value in WRONG_VALUES + ["f", "f l"]:
            self.assertIs(Program("f") == value, False)
            self.assertIs(Program("f") != value, True)


if __name__ == "__main__":
    unittest.main()
