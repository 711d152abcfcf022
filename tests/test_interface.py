"""The interface, the conventions and the form of the files."""

import ast
import inspect
import pathlib
import unittest

import plotpens
from helpers import nested
from plotpens import errors, motions, paths, pictures, programs, sources
from plotpens.motions import Motion, motion_of, pen_after, pose_after
from plotpens.paths import first_at, points_of, stretches_of
from plotpens.pictures import Picture, drawn, edge_between, is_edge, passes_of
from plotpens.programs import Program, count_steps, step_at, steps_from, written
from plotpens.sources import names_of, read_source, routine

PACKAGE = pathlib.Path(plotpens.__file__).parent
FUNCTIONS = {
    programs: {"step_at": ["program", "index"], "steps_from": ["program", "index"],
               "count_steps": ["program", "letter"], "written": ["program"]},
    sources: {"read_source": ["source"], "routine": ["source", "name"], "names_of": ["source"]},
    motions: {"motion_of": ["program"], "pose_after": ["program", "index", "*start"], "pen_after": ["program", "*pen"]},
    paths: {"points_of": ["program", "*start"], "stretches_of": ["program", "*start", "*pen"],
            "first_at": ["program", "point"]},
    pictures: {"is_edge": ["value"], "edge_between": ["point", "other_point"], "drawn": ["program", "*start", "*pen"],
               "passes_of": ["program", "*start", "*pen"]},
}
CLASSES = {
    Program: ("plotpens.programs", ["text"], ["__init__", "__len__", "__eq__", "__contains__", "__add__", "__mul__",
                                              "__neg__", "__invert__", "text", "length", "depth"]),
    Motion: ("plotpens.motions", ["turn", "dx", "dy"], ["__init__", "__call__", "__eq__", "__add__", "__mul__", "__neg__",
                                                        "turn", "shift", "order"]),
    Picture: ("plotpens.pictures", ["edges"], ["__init__", "__len__", "__eq__", "__contains__", "__xor__", "edges", "moved",
                                               "turned"]),
}
DEFAULTS = {"start": (0, 0, 0), "pen": True}
FIELDS = {"InvalidText": ["index"], "InvalidSource": ["line", "index"], "TooDeep": ["limit"], "TooLarge": ["limit"]}


def parameters_of(function):
    """The names of the parameters, with a star in front if they are passed by keyword."""
    parameters = inspect.signature(function).parameters.values()
    return ["*" * (parameter.kind == inspect.Parameter.KEYWORD_ONLY) + parameter.name for parameter in parameters]


class InterfaceTest(unittest.TestCase):
    def test_functions_are_defined_in_their_files(self):
        for module, functions in FUNCTIONS.items():
            for name, parameters in functions.items():
                function = getattr(module, name)
                self.assertEqual(function.__module__, module.__name__)
                self.assertEqual(parameters_of(function), parameters)

    def test_parameters_by_keyword_have_their_defaults(self):
        for module, functions in FUNCTIONS.items():
            for name in functions:
                for parameter in inspect.signature(getattr(module, name)).parameters.values():
                    default = DEFAULTS.get(parameter.name, inspect.Parameter.empty)
                    self.assertEqual(parameter.default, default)

    def test_classes_define_what_is_listed(self):
        for kind, (module, parameters, names) in CLASSES.items():
            self.assertEqual(kind.__module__, module)
            self.assertEqual(parameters_of(kind), parameters)
            for name in names:
                self.assertIn(name, vars(kind))

    def test_methods_take_what_is_listed(self):
        self.assertEqual(parameters_of(Motion.__call__), ["self", "pose"])
        self.assertEqual(parameters_of(Motion.order), ["self"])
        self.assertEqual(parameters_of(Picture.moved), ["self", "dx", "dy"])
        self.assertEqual(parameters_of(Picture.turned), ["self", "quarters"])

    def test_errors_take_their_fields(self):
        for name, fields in FIELDS.items():
            self.assertEqual(list(inspect.signature(getattr(errors, name)).parameters), fields)

    def test_steps_from_is_a_generator(self):
        self.assertTrue(inspect.isgeneratorfunction(steps_from))

    def test_kinds_of_values(self):
        program, source = Program("( f l )2"), "side: f\nside"
        self.assertIs(type(program.text), str)
        self.assertIs(type(program.length), int)
        self.assertIs(type(program.depth), int)
        self.assertIs(type(len(program)), int)
        self.assertIs(type("f" in program), bool)
        self.assertIs(type(program == program), bool)
        self.assertIs(type(step_at(program, 0)), str)
        self.assertIs(type(count_steps(program, "f")), int)
        self.assertIs(type(written(program)), str)
        self.assertIs(type(read_source(source)), Program)
        self.assertIs(type(routine(source, "side")), Program)
        self.assertIs(type(names_of(source)), list)

    def test_kinds_of_values_of_motions_and_paths(self):
        program, motion = Program("f l f"), Motion(1, 2, 3)
        self.assertIs(type(motion.turn), int)
        for value in [motion.shift, motion((0, 0, 0)), pose_after(program, 2), points_of(program)[0], stretches_of(program)[0]]:
            self.assertIs(type(value), tuple)
        for value in [motion + motion, motion * -2, -motion, motion_of(program)]:
            self.assertIs(type(value), Motion)
        for value in [motion.order(), first_at(program, (1, 1))]:
            self.assertIs(type(value), int)
        for value in [motion == motion, motion != motion, pen_after(program)]:
            self.assertIs(type(value), bool)
        for value in [points_of(program), stretches_of(program)]:
            self.assertIs(type(value), list)

    def test_kinds_of_values_of_pictures(self):
        program, picture = Program("f l f"), Picture([(0, 0, 0)])
        for value in [picture.edges, picture.edges[0], edge_between((0, 0), (0, 1)), passes_of(program)[0]]:
            self.assertIs(type(value), tuple)
        for value in [picture ^ picture, picture.moved(1, 2), picture.turned(3), drawn(program)]:
            self.assertIs(type(value), Picture)
        for value in [picture == picture, picture != picture, (0, 0, 0) in picture, is_edge(5)]:
            self.assertIs(type(value), bool)
        self.assertIs(type(len(picture)), int)
        self.assertIs(type(passes_of(program)), list)


class ConventionsTest(unittest.TestCase):
    def test_equal_arguments_give_equal_results(self):
        texts = ["", "f l", "( f ( l )2 )3", nested(12, "f l", 10 ** 30)]
        for text in texts:
            one, two = Program(text), Program(text)
            self.assertEqual(one, two)
            self.assertEqual(one + two, one + two)
            self.assertEqual([one.length, one.depth, len(one)], [two.length, two.depth, len(two)])
            self.assertEqual(count_steps(one, "f"), count_steps(two, "f"))
            self.assertEqual(-one, -two)
            self.assertEqual(~one, ~two)

    def test_programs_do_not_change(self):
        program = Program("( f2 ( l )3 )2 b")
        before = written(program), program.text, program.length, program.depth, len(program)
        steps = steps_from(program, 3)
        next(steps)
        results = [program + program, program * 3, -program, ~program, step_at(program, 4), count_steps(program, "l")]
        self.assertEqual(len(results), 6)
        self.assertEqual((written(program), program.text, program.length, program.depth, len(program)), before)

    def test_calls_that_raise_change_nothing(self):
        program = Program("( f2 ( l )3 )2 u")
        for run in [lambda: program + 1, lambda: program * -1, lambda: ~program, lambda: step_at(program, 99),
                    lambda: count_steps(program, "x")]:
            with self.assertRaises(errors.PlotError):
                run()
        self.assertEqual((program.text, written(program)), ("( f2 ( l )3 )2 u", "fflllfflllu"))

    def test_larger_values_that_were_returned_may_be_passed_back(self):
        large = Program(" ".join([f"f{10 ** 30 - 1}"] * 1000))
        self.assertGreater(len(large.text), 4000)
        self.assertEqual(Program(large.text), large)
        self.assertEqual(read_source(large.text), large)
        deep = Program(nested(12, f"f{10 ** 30} l", 10 ** 30))
        self.assertEqual(step_at(deep, deep.length - 1), "l")
        self.assertEqual(list(steps_from(deep, deep.length)), [])


class FormTest(unittest.TestCase):
    def test_the_folder_holds_only_python_files(self):
        for path in PACKAGE.iterdir():
            self.assertTrue(path.suffix == ".py" or path.name == "__pycache__", path)

    def test_files_are_small_and_plain(self):
        for path in PACKAGE.glob("*.py"):
            text = path.read_text(encoding="utf-8")
            self.assertTrue(text.isascii() and "\t" not in text, path)
            self.assertLess(len(text.splitlines()), 400, path)
            self.assertLessEqual(max([len(line) for line in text.splitlines()]), 120, path)

    def test_functions_are_small(self):
        for path in PACKAGE.glob("*.py"):
            for node in ast.walk(ast.parse(path.read_text(encoding="utf-8"))):
                if isinstance(node, ast.FunctionDef):
                    self.assertLessEqual(node.end_lineno - node.lineno + 1, 40, node.name)

    def test_imports_are_the_packages_own(self):
        for path in PACKAGE.glob("*.py"):
            for node in ast.walk(ast.parse(path.read_text(encoding="utf-8"))):
                self.assertNotIsInstance(node, ast.Import)
                if isinstance(node, ast.ImportFrom):
                    self.assertTrue(node.module.startswith("plotpens."), node.module)


if __name__ == "__main__":
    unittest.main()
