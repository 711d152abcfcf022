"""The examples of sections 4 and 5 of the document, word for word."""

import unittest

from plotpens.errors import InvalidSource, InvalidText


class ExamplesTest(unittest.TestCase):
    def test_program(self):
        from plotpens.programs import Program
        stair = Program("f l f2 r")
        deep = Program("( f2 ( l f )3 )10")
        self.assertEqual(
            [stair.length, len(stair), deep.length, deep.depth, "b" in stair, (stair * 4).text, (-stair).text, (~stair).text],
            [5, 4, 80, 2, False, '( f l f2 r )4', 'f r f2 l', 'l b2 r b'])

    def test_invalid_text(self):
        from plotpens.programs import Program
        with self.assertRaises(InvalidText) as caught:
            Program("f ( l )")
        self.assertEqual(caught.exception.index, 3)

    def test_steps(self):
        from plotpens.programs import Program, count_steps, step_at, steps_from, written
        far = Program("f2 l") * 10 ** 30
        some = [step for turn, step in zip(range(4), steps_from(far, 10 ** 30))]
        self.assertEqual(
            [step_at(far, 3 * 10 ** 30 - 1), count_steps(far, "f") == 2 * 10 ** 30, written(Program("f2 ( l )3")), some],
            ['l', True, 'fflll', ['f', 'l', 'f', 'f']])

    def test_source(self):
        from plotpens.sources import names_of, read_source, routine
        source = "side: f2 l\nroom: ( side )4\nroom u f3 d room"
        self.assertEqual(
            [read_source(source).text, routine(source, "room").length, names_of(source)],
            ['( f2 l )4 u f3 d ( f2 l )4', 12, ['side', 'room']])

    def test_invalid_source(self):
        from plotpens.sources import read_source
        with self.assertRaises(InvalidSource) as caught:
            read_source("side: f x\nside")
        self.assertEqual((caught.exception.line, caught.exception.index), (0, 2))

    def test_table_of_programs(self):
        from plotpens.programs import Program
        texts = ["f l f2 r", "( f l )4", "f2 b", "u f d f"]
        self.assertEqual([Program(text).length for text in texts], [5, 8, 3, 4])


if __name__ == "__main__":
    unittest.main()
