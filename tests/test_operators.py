"""The operators of programs: the texts that come out, and the errors."""

import unittest

from helpers import WRONG_VALUES, all_steps, nested, short_texts
from plotpens.errors import HasPen, InvalidProgram, InvalidTimes, TooDeep, TooLarge
from plotpens.programs import Program

MOST = 10 ** 30
WRONG_TIMES = [None, True, False, -1, MOST + 1, 10 ** 99, -10 ** 99, 10 ** 5000, "2", b"2", [2], (2,), {2: 2},
               Program("f")]
BACK = {"f": "b", "b": "f", "l": "r", "r": "l"}


def letters(many):
    return Program(" ".join(["f"] * many))


class OperatorsTest(unittest.TestCase):
    def check_limit(self, kind, limit, run):
        with self.assertRaises(kind) as caught:
            run()
        self.assertEqual(caught.exception.limit, limit)


class AddTest(OperatorsTest):
    def test_texts(self):
        cases = [("f", "l", "f l"), ("", "l", "l"), ("f", "", "f"), ("", "", ""), ("f2", "f", "f2 f"),
                 ("( f )2", "( f )2", "( f )2 ( f )2"), ("( f ( l )2 )3 u", "d b2", "( f ( l )2 )3 u d b2")]
        for one, two, text in cases:
            program = Program(one) + Program(two)
            self.assertIsInstance(program, Program)
            self.assertEqual(program.text, text)

    def test_the_programs_stay_as_they_were(self):
        one, two = Program("f l"), Program("( b )2")
        one + two
        self.assertEqual((one.text, two.text, one.length, two.length, len(one), len(two)), ("f l", "( b )2", 2, 2, 2, 3))

    def test_properties_of_the_sum(self):
        program = Program("( f )3") + Program("( ( l )2 )2 u")
        self.assertEqual((program.length, program.depth, len(program), "u" in program), (8, 2, 9, True))

    def test_not_a_program(self):
        for value in WRONG_VALUES + ["f", ""]:
            with self.assertRaises(InvalidProgram):
                Program("f") + value
            with self.assertRaises(InvalidProgram):
                letters(1000) + value

    def test_number_of_words(self):
        self.assertEqual(len(letters(400) + letters(600)), 1000)
        self.assertEqual(len(letters(1000) + Program("")), 1000)
        self.assertEqual(len(Program("") + letters(1000)), 1000)
        self.check_limit(TooLarge, 1000, lambda: letters(401) + letters(600))
        self.check_limit(TooLarge, 1000, lambda: letters(1000) + Program("l"))
        self.check_limit(TooLarge, 1000, lambda: letters(1000) + letters(1000))

    def test_depth_does_not_add_up(self):
        self.assertEqual((Program(nested(12)) + Program(nested(12))).depth, 12)

    def test_in_place(self):
        program = kept = Program("f")
        program += Program("l")
        program *= 3
        self.assertEqual((program.text, kept.text), ("( f l )3", "f"))


class TimesTest(OperatorsTest):
    def test_texts(self):
        cases = [("f l", 2, "( f l )2"), ("f", 5, "( f )5"), ("f3", 2, "( f3 )2"), ("( f )2", 3, "( ( f )2 )3"),
                 ("f l", 1, "f l"), ("f l", 0, ""), ("", 0, ""), ("", 1, ""), ("", 7, ""), ("", MOST, ""),
                 ("f u", MOST, "( f u )" + str(MOST)), ("f u", MOST - 1, "( f u )" + "9" * 30)]
        for text, times, found in cases:
            program = Program(text) * times
            self.assertIsInstance(program, Program)
            self.assertEqual(program.text, found)

    def test_the_program_stays_as_it_was(self):
        program = Program("f l")
        for times in [0, 1, 2, MOST]:
            program * times
        self.assertEqual((program.text, program.length, program.depth, len(program)), ("f l", 2, 0, 2))

    def test_properties_of_the_product(self):
        program = Program("( f l2 )3") * MOST
        self.assertEqual((program.length, program.depth, len(program)), (9 * MOST, 2, 6))

    def test_not_times(self):
        for value in WRONG_TIMES:
            for text in ["f", ""]:
                with self.assertRaises(InvalidTimes):
                    Program(text) * value

    def test_number_of_words(self):
        self.assertEqual(len(letters(998) * 2), 1000)
        self.check_limit(TooLarge, 1000, lambda: letters(999) * 2)
        self.check_limit(TooLarge, 1000, lambda: letters(1000) * MOST)
        self.assertEqual(len(letters(1000) * 1), 1000)
        self.assertEqual(len(letters(1000) * 0), 0)

    def test_depth(self):
        self.assertEqual((Program(nested(11)) * 2).depth, 12)
        self.check_limit(TooDeep, 12, lambda: Program(nested(12)) * 2)
        self.assertEqual((Program(nested(12)) * 1).text, nested(12))
        self.assertEqual((Program(nested(12)) * 0).text, "")

    def test_order_of_errors(self):
        large = Program(nested(12, " ".join(["f"] * 975)))
        self.assertEqual((len(large), large.depth), (999, 12))
        self.check_limit(TooLarge, 1000, lambda: large * 2)
        fitting = Program(nested(12, " ".join(["f"] * 974)))
        self.check_limit(TooDeep, 12, lambda: fitting * 2)
        for value in WRONG_TIMES:
            with self.assertRaises(InvalidTimes):
                large * value


class NegativeTest(OperatorsTest):
    def test_texts(self):
        cases = [("", ""), ("l", "r"), ("r2 l3", "l2 r3"), ("f b u d", "f b u d"), ("( l ( r f )2 )3 l", "( r ( l f )2 )3 r"),
                 (f"( l{MOST} )2", f"( r{MOST} )2")]
        for text, found in cases:
            program = Program(text)
            self.assertEqual((-program).text, found)
            self.assertEqual(program.text, text)
            self.assertEqual((-(-program)).text, text)

    def test_at_the_limits(self):
        self.assertEqual((-Program(nested(12, "l"))).text, nested(12, "r"))
        self.assertEqual((-Program(" ".join(["l"] * 1000))).text, " ".join(["r"] * 1000))


class InvertTest(OperatorsTest):
    def test_texts(self):
        cases = [("", ""), ("f", "b"), ("f2 l3", "r3 b2"), ("( f )2", "( b )2"), ("( f l )2 r b", "f l ( r b )2"),
                 ("( f ( l b2 )2 )3 r4", "l4 ( ( f2 r )2 b )3"), ("( f )2 ( l )3", "( r )3 ( b )2"),
                 (f"( f{MOST} l )2", f"( r b{MOST} )2")]
        for text, found in cases:
            program = Program(text)
            self.assertEqual((~program).text, found)
            self.assertEqual(program.text, text)
            self.assertEqual((~~program).text, text)

    def test_steps_are_those_in_opposite_order(self):
        for text in short_texts():
            if "u" not in text:
                steps = "".join(BACK[step] for step in reversed(all_steps(text)))
                self.assertEqual(all_steps((~Program(text)).text), steps)

    def test_has_pen(self):
        for text in ["u", "d", "f u l", "( f ( d2 )2 )3", "u d", " ".join(["f"] * 999 + ["u"])]:
            with self.assertRaises(HasPen):
                ~Program(text)

    def test_at_the_limits(self):
        self.assertEqual((~Program(nested(12, "f"))).text, nested(12, "b"))
        self.assertEqual((~letters(1000)).text, " ".join(["b"] * 1000))


if __name__ == "__main__":
    unittest.main()
