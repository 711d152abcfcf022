"""step_at, steps_from, count_steps and written."""

import inspect
import itertools
import unittest

from helpers import STEPS, WRONG_VALUES, all_steps, nested, short_texts
from plotpens.errors import InvalidIndex, InvalidLetter, InvalidProgram, TooLarge
from plotpens.programs import Program, count_steps, step_at, steps_from, written

MOST = 10 ** 30
TEXTS = short_texts() + ["( f2 ( l f )3 )10", "f l f2 r", "( ( f b2 )2 u ( ( l )3 r d2 )2 )3 b", nested(6, "f u"),
                         "f3 ( l )2 ( ( r f )3 )2 d4"]


def some_from(program, index, many):
    return "".join(itertools.islice(steps_from(program, index), many))


class ShortTest(unittest.TestCase):
    def test_step_at(self):
        for text in TEXTS:
            program = Program(text)
            found = [step_at(program, index) for index in range(program.length)]
            self.assertEqual("".join(found), all_steps(text))

    def test_steps_from(self):
        for text in TEXTS:
            program, steps = Program(text), all_steps(text)
            for index in range(len(steps) + 1):
                self.assertEqual(list(steps_from(program, index)), list(steps[index:]))

    def test_count_steps(self):
        for text in TEXTS:
            found = [count_steps(Program(text), letter) for letter in STEPS]
            self.assertEqual(found, [all_steps(text).count(letter) for letter in STEPS])

    def test_written(self):
        for text in TEXTS:
            self.assertEqual(written(Program(text)), all_steps(text))


class GreatTest(unittest.TestCase):
    def setUp(self):
        self.even = Program(nested(12, "f2 l", MOST))
        self.many = 3 * MOST ** 12
        self.inside = 2 * 3 * MOST ** 11
        self.mixed = Program("u d2") + Program(nested(11, "f2 l", MOST)) * 2 + Program("b r3")

    def test_first_and_last(self):
        self.assertEqual(self.even.length, self.many)
        self.assertEqual([step_at(self.even, 0), step_at(self.even, self.many - 1)], ["f", "l"])
        long = Program(f"f{MOST} l{MOST}") * MOST
        self.assertEqual([step_at(long, index) for index in [0, MOST - 1, MOST, 2 * MOST - 1, 2 * MOST]],
                         ["f", "f", "l", "l", "f"])
        self.assertEqual(step_at(long, long.length - 1), "l")

    def test_other_indexes(self):
        for index in [10 ** 100, 10 ** 300 + 7, 2 * 10 ** 359, self.many - 5, self.many // 7]:
            expected = "".join("ffl"[at % 3] for at in range(index, min(index + 50, self.many)))
            self.assertEqual(step_at(self.even, index), expected[0])
            self.assertEqual(some_from(self.even, index, 50), expected)

    def test_within_other_words(self):
        self.assertEqual(self.mixed.length, self.inside + 7)
        self.assertEqual(some_from(self.mixed, 0, 9), "uddfflffl")
        self.assertEqual(list(steps_from(self.mixed, self.inside)), list("fflbrrr"))
        self.assertEqual(list(steps_from(self.mixed, self.inside + 3)), list("brrr"))
        self.assertEqual(list(steps_from(self.mixed, self.inside + 7)), [])
        self.assertEqual([step_at(self.mixed, self.inside + at) for at in range(7)], list("fflbrrr"))
        half = 3 + self.inside // 2
        self.assertEqual(some_from(self.mixed, half - 2, 7), "flfflff")

    def test_steps_of_a_long_word(self):
        program = Program(f"l f{MOST} r")
        self.assertEqual(some_from(program, 0, 4), "lfff")
        self.assertEqual(list(steps_from(program, MOST - 1)), ["f", "f", "r"])

    def test_many_words(self):
        program = Program(" ".join(["f l"] * 499)) * MOST
        self.assertEqual(some_from(program, 998 * 10 ** 20 + 997, 4), "lflf")
        self.assertEqual(some_from(program, 1, 20000), "lf" * 10000)

    def test_count_steps(self):
        self.assertEqual([count_steps(self.even, letter) for letter in STEPS], [2 * MOST ** 12, 0, MOST ** 12, 0, 0, 0])
        self.assertEqual([count_steps(self.mixed, letter) for letter in STEPS],
                         [4 * MOST ** 11, 1, 2 * MOST ** 11, 3, 1, 2])
        self.assertEqual(count_steps(Program(f"f{MOST} ( f{MOST} l )3"), "f"), 4 * MOST)


class GeneratorTest(unittest.TestCase):
    def test_two_at_a_time(self):
        program = Program("( f ( l b )2 )10") * MOST
        one, two = steps_from(program, 0), steps_from(program, 2)
        found = [(next(one), next(two)) for _ in range(12)]
        steps = "flblb" * 4
        self.assertEqual(found, [(steps[at], steps[at + 2]) for at in range(12)])

    def test_it_is_a_generator_that_goes_on(self):
        steps = steps_from(Program("f l2"), 0)
        self.assertTrue(inspect.isgenerator(steps))
        self.assertIs(iter(steps), steps)
        self.assertEqual([next(steps), next(steps), next(steps), next(steps, None)], ["f", "l", "l", None])

    def test_errors_come_with_the_first_item(self):
        for program, index, kind in [("f", 0, InvalidProgram), (Program("f"), 2, InvalidIndex)]:
            steps = steps_from(program, index)
            with self.assertRaises(kind):
                next(steps)


class StepErrorsTest(unittest.TestCase):
    def test_not_a_program(self):
        for value in WRONG_VALUES + ["f", ""]:
            for run in [lambda: step_at(value, -1), lambda: next(steps_from(value, -1)),
                        lambda: count_steps(value, "x"), lambda: written(value)]:
                with self.assertRaises(InvalidProgram):
                    run()

    def test_index(self):
        for text in ["", "f", "f l2", "( f l )5", nested(12, "f", MOST)]:
            program = Program(text)
            for index in [-1, program.length, program.length + 1, 10 ** 5000, None, True, False, "0", [0], (0,), b"0", {}]:
                with self.assertRaises(InvalidIndex):
                    step_at(program, index)
            for index in [-1, program.length + 1, 10 ** 5000, None, True, False, "0", [0], (0,), b"0", {}]:
                with self.assertRaises(InvalidIndex):
                    next(steps_from(program, index))
            self.assertIsNone(next(steps_from(program, program.length), None))

    def test_letter(self):
        for value in WRONG_VALUES + ["", "x", "F", "fb", "f2", "(", ")2", " ", Program("f")]:
            for text in ["", "f", "( f l )3"]:
                with self.assertRaises(InvalidLetter):
                    count_steps(Program(text), value)

    def test_a_letter_that_does_not_occur(self):
        self.assertEqual([count_steps(Program(""), letter) for letter in STEPS], [0] * 6)

    def test_written_at_its_limit(self):
        self.assertEqual(written(Program("f1000")), "f" * 1000)
        self.assertEqual(written(Program("( f l )500")), "fl" * 500)
        self.assertEqual(written(Program("")), "")
        for text in ["f1001", "( f l )500 u", "( f7 )143", nested(12, "f", MOST)]:
            with self.assertRaises(TooLarge) as caught:
                written(Program(text))
            self.assertEqual(caught.exception.limit, 1000)


if __name__ == "__main__":
    unittest.main()
