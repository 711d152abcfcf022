"""The interface, the conventions and the form of the files."""

import ast
import inspect
import pathlib
import unittest

import plotpens
from helpers import nested
from plotpens import errors, programs, sources
from plotpens.programs import Program, count_steps, step_at, steps_from, written
from plotpens.sources import names_of, read_source, routine

PACKAGE = pathlib.Path(plotpens.__file__).parent
FUNCTIONS = {
    programs: {"step_at": ["program", "index"], "steps_from": ["program", "index"],
               "count_steps": ["program", "letter"], "written": ["program"]},
    sources: {"read_source": ["source"], "routine": ["source", "name"], "names_of": ["source"]},
}
FIELDS = {"InvalidText": ["index"], "InvalidSource": ["line", "index"], "TooDeep": ["limit"], "TooLarge": ["limit"]}


class InterfaceTest(unittest.TestCase):
    def test_functions_are_defined_in_their_files(self):
        for module, functions in FUNCTIONS.items():
            for name, parameters in functions.items():
                function = getattr(module, name)
                self.assertEqual(function.__module__, module.__name__)
                self.assertEqual(list(inspect.signature(function).parameters), parameters)

    def test_program_defines_what_is_listed(self):
        self.assertEqual(Program.__module__, "plotpens.programs")
        self.assertEqual(list(inspect.signature(Program).parameters), ["text"])
        for name in ["__init__", "__len__", "__eq__", "__contains__", "__add__", "__mul__", "__neg__", "__invert__",
                     "text", "length", "depth"]:
            self.assertIn(name, vars(Program))

    def test_errors_take_their_fields(self):
        for name, fields in FIELDS.items():
            self.assertEqual(list(inspect.signature(getattr(errors, name)).parameters), fields)

    def test_steps_from_is_a_generator(self):
        self.assertTrue(inspect.isgeneratorfunction(steps_from))

    def test_kinds_of_values(self):
        program, source = Program("( f l )2"), "side: f\nside"
        self.assertIs(type(program.text), str)
        self.assertIs(type(program.length), int)
        self.assertIs(type(program.depth), int)
        self.assertIs(type(len(program)), int)
        self.assertIs(type("f" in program), bool)
        self.assertIs(type(program == program), bool)
        self.assertIs(type(step_at(program, 0)), str)
        self.assertIs(type(count_steps(program, "f")), int)
        self.assertIs(type(written(program)), str)
        self.assertIs(type(read_source(source)), Program)
        self.assertIs(type(routine(source, "side")), Program)
        self.assertIs(type(names_of(source)), list)


class ConventionsTest(unittest.TestCase):
    def test_equal_arguments_give_equal_results(self):
        texts = ["", "f l", "( f ( l )2 )3", nested(12, "f l", 10 ** 30)]
        for text in texts:
            one, two = Program(text), Program(text)
            self.assertEqual(one, two)
            self.assertEqual(one + two, one + two)
            self.assertEqual([one.length, one.depth, len(one)], [two.length, two.depth, len(two)])
            self.assertEqual(count_steps(one, "f"), count_steps(two, "f"))
            self.assertEqual(-one, -two)
            self.assertEqual(~one, ~two)

    def test_programs_do_not_change(self):
        program = Program("( f2 ( l )3 )2 b")
        before = written(program), program.text, program.length, program.depth, len(program)
        steps = steps_from(program, 3)
        next(steps)
        results = [program + program, program * 3, -program, ~program, step_at(program, 4), count_steps(program, "l")]
        self.assertEqual(len(results), 6)
        self.assertEqual((written(program), program.text, program.length, program.depth, len(program)), before)

    def test_calls_that_raise_change_nothing(self):
        program = Program("( f2 ( l )3 )2 u")
        for run in [lambda: program + 1, lambda: program * -1, lambda: ~program, lambda: step_at(program, 99),
                    lambda: count_steps(program, "x")]:
            with self.assertRaises(errors.PlotError):
                run()
        self.assertEqual((program.text, written(program)), ("( f2 ( l )3 )2 u", "fflllfflllu"))

    def test_larger_values_that_were_returned_may_be_passed_back(self):
        large = Program(" ".join([f"f{10 ** 30 - 1}"] * 1000))
        self.assertGreater(len(large.text), 4000)
        self.assertEqual(Program(large.text), large)
        self.assertEqual(read_source(large.text), large)
        deep = Program(nested(12, f"f{10 ** 30} l", 10 ** 30))
        self.assertEqual(step_at(deep, deep.length - 1), "l")
        self.assertEqual(list(steps_from(deep, deep.length)), [])


class FormTest(unittest.TestCase):
    def test_the_folder_holds_only_python_files(self):
        for path in PACKAGE.iterdir():
            self.assertTrue(path.suffix == ".py" or path.name == "__pycache__", path)

    def test_files_are_small_and_plain(self):
        for path in PACKAGE.glob("*.py"):
            text = path.read_text(encoding="utf-8")
            self.assertTrue(text.isascii() and "\t" not in text, path)
            self.assertLess(len(text.splitlines()), 400, path)
            self.assertLessEqual(max([len(line) for line in text.splitlines()]), 120, path)

    def test_functions_are_small(self):
        for path in PACKAGE.glob("*.py"):
            for node in ast.walk(ast.parse(path.read_text(encoding="utf-8"))):
                if isinstance(node, ast.FunctionDef):
                    self.assertLessEqual(node.end_lineno - node.lineno + 1, 40, node.name)

    def test_imports_are_the_packages_own(self):
        for path in PACKAGE.glob("*.py"):
            for node in ast.walk(ast.parse(path.read_text(encoding="utf-8"))):
                self.assertNotIsInstance(node, ast.Import)
                if isinstance(node, ast.ImportFrom):
                    self.assertTrue(node.module.startswith("plotpens."), node.module)


if __name__ == "__main__":
    unittest.main()
