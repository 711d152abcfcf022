"""The interface, the conventions and the form of the files."""

import ast
import inspect
import pathlib
import unittest

import plotpens
from helpers import nested
from plotpens import (art, errors, faces, far, growth, meetings, motions, odds, paths, pictures, programs, sources, spans,
                      strokes, writing)
from plotpens.art import read_art, show_art
from plotpens.console import Console
from plotpens.faces import area_of, count_inside, inside_of, is_inside, outline_of, winding
from plotpens.far import rounds_passing
from plotpens.growth import times_with
from plotpens.motions import Motion, motion_of, pen_after, pose_after
from plotpens.odds import degree_at, ends_of, is_even, odd_points, parts_of
from plotpens.paths import first_at, points_of, stretches_of
from plotpens.pictures import Picture, drawn, edge_between, is_edge, passes_of
from plotpens.programs import Program, count_steps, step_at, steps_from, written
from plotpens.sheets import Sheet
from plotpens.sources import names_of, read_source, routine
from plotpens.spans import covered, depth_at, odd_covered
from plotpens.strokes import fewest_plain, fewest_toggled, is_plain, is_toggled, plain_strokes, toggled_strokes
from plotpens.writing import fewest_words, packed, program_for

PACKAGE = pathlib.Path(plotpens.__file__).parent
FUNCTIONS = {
    programs: {"step_at": ["program", "index"], "steps_from": ["program", "index"],
               "count_steps": ["program", "letter"], "written": ["program"]},
    sources: {"read_source": ["source"], "routine": ["source", "name"], "names_of": ["source"]},
    motions: {"motion_of": ["program"], "pose_after": ["program", "index", "*start"], "pen_after": ["program", "*pen"]},
    paths: {"points_of": ["program", "*start"], "stretches_of": ["program", "*start", "*pen"],
            "first_at": ["program", "point"]},
    pictures: {"is_edge": ["value"], "edge_between": ["point", "other_point"], "drawn": ["program", "*start", "*pen"],
               "passes_of": ["program", "*start", "*pen"]},
    odds: {"degree_at": ["picture", "point"], "odd_points": ["picture"], "is_even": ["picture"], "parts_of": ["picture"],
           "ends_of": ["program", "*start", "*pen"]},
    strokes: {"fewest_plain": ["picture"], "plain_strokes": ["picture"], "is_plain": ["picture", "value"],
              "fewest_toggled": ["picture"], "toggled_strokes": ["picture"], "is_toggled": ["picture", "value"]},
    writing: {"program_for": ["picture"], "fewest_words": ["program"], "packed": ["program"]},
    faces: {"inside_of": ["picture"], "count_inside": ["picture"], "is_inside": ["picture", "face"], "outline_of": ["faces"],
            "winding": ["program", "face"], "area_of": ["program"]},
    spans: {"covered": ["intervals"], "odd_covered": ["intervals"], "depth_at": ["intervals", "place"]},
    far: {"count_edges": ["program", "times"], "count_passed": ["program", "times"], "count_odd": ["program", "times"],
          "strokes_after": ["program", "times"], "faces_after": ["program", "times"], "has_edge": ["program", "edge", "times"],
          "passes_at": ["program", "edge", "times"], "picture_after": ["program", "times"],
          "rounds_passing": ["program", "edge"]},
    growth: {"growth_of": ["program"], "times_with": ["program", "count"], "times_for": ["program", "picture"]},
    meetings: {"meeting": ["program", "start", "other", "other_start"]},
    art: {"show_art": ["picture"], "read_art": ["rows"]},
}
CLASSES = {
    Program: ("plotpens.programs", ["text"], ["__init__", "__len__", "__eq__", "__contains__", "__add__", "__mul__",
                                              "__neg__", "__invert__", "text", "length", "depth"]),
    Motion: ("plotpens.motions", ["turn", "dx", "dy"], ["__init__", "__call__", "__eq__", "__add__", "__mul__", "__neg__",
                                                        "turn", "shift", "order"]),
    Picture: ("plotpens.pictures", ["edges"], ["__init__", "__len__", "__eq__", "__contains__", "__xor__", "edges", "moved",
                                               "turned"]),
    Sheet: ("plotpens.sheets", [], ["__init__", "__len__", "__eq__", "MOST", "of", "picture", "pose", "play", "jump", "lay", "wipe",
                                    "undo", "log", "preview"]),
    Console: ("plotpens.console", [], ["__init__", "say"]),
}
DEFAULTS = {"start": (0, 0, 0), "pen": True}
FIELDS = {"InvalidText": ["index"], "InvalidSource": ["line", "index"], "TooDeep": ["limit"], "TooLarge": ["limit"]}


def parameters_of(function):
    """The names of the parameters, with a star in front if they are passed by keyword."""
    parameters = inspect.signature(function).parameters.values()
    return ["*" * (parameter.kind == inspect.Parameter.KEYWORD_ONLY) + parameter.name for parameter in parameters]


class InterfaceTest(unittest.TestCase):
    def test_functions_are_defined_in_their_files(self):
        for module, functions in FUNCTIONS.items():
            for name, parameters in functions.items():
                function = getattr(module, name)
                self.assertEqual(function.__module__, module.__name__)
                self.assertEqual(parameters_of(function), parameters)

    def test_parameters_by_keyword_have_their_defaults(self):
        for module, functions in FUNCTIONS.items():
            for name in functions:
                for parameter in inspect.signature(getattr(module, name)).parameters.values():
                    by_keyword = parameter.kind == inspect.Parameter.KEYWORD_ONLY
                    default = DEFAULTS[parameter.name] if by_keyword else inspect.Parameter.empty
                    self.assertEqual(parameter.default, default)

    def test_classes_define_what_is_listed(self):
        for kind, (module, parameters, names) in CLASSES.items():
            self.assertEqual(kind.__module__, module)
            self.assertEqual(parameters_of(kind), parameters)
            for name in names:
                self.assertIn(name, vars(kind))

    def test_methods_take_what_is_listed(self):
        self.assertEqual(parameters_of(Motion.__call__), ["self", "pose"])
        self.assertEqual(parameters_of(Motion.order), ["self"])
        self.assertEqual(parameters_of(Picture.moved), ["self", "dx", "dy"])
        self.assertEqual(parameters_of(Picture.turned), ["self", "quarters"])
        self.assertEqual(parameters_of(Sheet.play), ["self", "program", "*times"])
        self.assertEqual(inspect.signature(Sheet.play).parameters["times"].default, 1)
        self.assertEqual([parameters_of(method) for method in [Sheet.jump, Sheet.lay, Sheet.wipe, Sheet.undo, Sheet.log]],
                         [["self", "pose"], ["self", "picture"], ["self"], ["self"], ["self"]])
        self.assertEqual(parameters_of(Console.say), ["self", "row"])
        for method in [Sheet.of, Sheet.preview]:
            kinds = [parameter.kind for parameter in inspect.signature(method).parameters.values()]
            self.assertEqual(kinds[-1], inspect.Parameter.VAR_POSITIONAL)
        self.assertIsInstance(vars(Sheet)["of"], classmethod)

    def test_properties(self):
        for kind, names in {Program: ["text", "length", "depth"], Motion: ["turn", "shift"], Picture: ["edges"],
                            Sheet: ["picture", "pose"]}.items():
            for name in names:
                self.assertIsInstance(vars(kind)[name], property)

    def test_errors_take_their_fields(self):
        for name, fields in FIELDS.items():
            self.assertEqual(list(inspect.signature(getattr(errors, name)).parameters), fields)

    def test_steps_from_is_a_generator(self):
        self.assertTrue(inspect.isgeneratorfunction(steps_from))

    def test_kinds_of_values(self):
        program, source = Program("( f l )2"), "side: f\nside"
        self.assertIs(type(program.text), str)
        self.assertIs(type(program.length), int)
        self.assertIs(type(program.depth), int)
        self.assertIs(type(len(program)), int)
        self.assertIs(type("f" in program), bool)
        self.assertIs(type(program == program), bool)
        self.assertIs(type(step_at(program, 0)), str)
        self.assertIs(type(count_steps(program, "f")), int)
        self.assertIs(type(written(program)), str)
        self.assertIs(type(read_source(source)), Program)
        self.assertIs(type(routine(source, "side")), Program)
        self.assertIs(type(names_of(source)), list)

    def test_kinds_of_values_of_motions_and_paths(self):
        program, motion = Program("f l f"), Motion(1, 2, 3)
        self.assertIs(type(motion.turn), int)
        for value in [motion.shift, motion((0, 0, 0)), pose_after(program, 2), points_of(program)[0], stretches_of(program)[0]]:
            self.assertIs(type(value), tuple)
        for value in [motion + motion, motion * -2, -motion, motion_of(program)]:
            self.assertIs(type(value), Motion)
        for value in [motion.order(), first_at(program, (1, 1))]:
            self.assertIs(type(value), int)
        for value in [motion == motion, motion != motion, pen_after(program)]:
            self.assertIs(type(value), bool)
        for value in [points_of(program), stretches_of(program)]:
            self.assertIs(type(value), list)

    def test_kinds_of_values_of_pictures(self):
        program, picture = Program("f l f"), Picture([(0, 0, 0)])
        for value in [picture.edges, picture.edges[0], edge_between((0, 0), (0, 1)), passes_of(program)[0]]:
            self.assertIs(type(value), tuple)
        for value in [picture ^ picture, picture.moved(1, 2), picture.turned(3), drawn(program)]:
            self.assertIs(type(value), Picture)
        for value in [picture == picture, picture != picture, (0, 0, 0) in picture, is_edge(5)]:
            self.assertIs(type(value), bool)
        self.assertIs(type(len(picture)), int)
        self.assertIs(type(passes_of(program)), list)

    def test_kinds_of_values_of_odds_and_strokes(self):
        program, picture = Program("f l f"), Picture([(0, 0, 0)])
        for value in [odd_points(picture), parts_of(picture), ends_of(program), plain_strokes(picture), toggled_strokes(picture)]:
            self.assertIs(type(value), list)
        for value in [odd_points(picture)[0], ends_of(program)[0], plain_strokes(picture)[0], toggled_strokes(picture)[0],
                      plain_strokes(picture)[0][0], toggled_strokes(picture)[0][0]]:
            self.assertIs(type(value), tuple)
        for value in [degree_at(picture, (0, 0)), fewest_plain(picture), fewest_toggled(picture)]:
            self.assertIs(type(value), int)
        for value in [is_even(picture), is_plain(picture, []), is_plain(picture, None), is_toggled(picture, []),
                      is_toggled(picture, None)]:
            self.assertIs(type(value), bool)

    def test_kinds_of_values_of_writing_and_faces(self):
        program, picture = Program("( f l )4"), outline_of([(0, 0)])
        for value in [program_for(picture), packed(program)]:
            self.assertIs(type(value), Program)
        for value in [fewest_words(program), count_inside(picture), winding(program, (0, 0)), area_of(program)]:
            self.assertIs(type(value), int)
        self.assertIs(type(inside_of(picture)), list)
        self.assertIs(type(inside_of(picture)[0]), tuple)
        self.assertIs(type(is_inside(picture, (0, 0))), bool)
        self.assertIs(type(picture), Picture)


class ConventionsTest(unittest.TestCase):
    def test_equal_arguments_give_equal_results(self):
        texts = ["", "f l", "( f ( l )2 )3", nested(12, "f l", 10 ** 30)]
        for text in texts:
            one, two = Program(text), Program(text)
            self.assertEqual(one, two)
            self.assertEqual(one + two, one + two)
            self.assertEqual([one.length, one.depth, len(one)], [two.length, two.depth, len(two)])
            self.assertEqual(count_steps(one, "f"), count_steps(two, "f"))
            self.assertEqual(-one, -two)
            self.assertEqual(~one, ~two)
            self.assertEqual(motion_of(one), motion_of(two))
            self.assertEqual(Motion(1, 2, len(one)), Motion(1, 2, len(two)))
            self.assertEqual(Picture([(len(one), 0, 0)]), Picture([(len(two), 0, 0)]))

    def test_programs_do_not_change(self):
        program = Program("( f2 ( l )3 )2 b")
        before = written(program), program.text, program.length, program.depth, len(program)
        steps = steps_from(program, 3)
        next(steps)
        results = [program + program, program * 3, -program, ~program, step_at(program, 4), count_steps(program, "l")]
        self.assertEqual(len(results), 6)
        self.assertEqual((written(program), program.text, program.length, program.depth, len(program)), before)

    def test_calls_that_raise_change_nothing(self):
        program = Program("( f2 ( l )3 )2 u")
        for run in [lambda: program + 1, lambda: program * -1, lambda: ~program, lambda: step_at(program, 99),
                    lambda: count_steps(program, "x")]:
            with self.assertRaises(errors.PlotError):
                run()
        self.assertEqual((program.text, written(program)), ("( f2 ( l )3 )2 u", "fflllfflllu"))

    def test_larger_values_that_were_returned_may_be_passed_back(self):
        large = Program(" ".join([f"f{10 ** 30 - 1}"] * 1000))
        self.assertGreater(len(large.text), 4000)
        self.assertEqual(Program(large.text), large)
        self.assertEqual(read_source(large.text), large)
        deep = Program(nested(12, f"f{10 ** 30} l", 10 ** 30))
        self.assertEqual(step_at(deep, deep.length - 1), "l")
        self.assertEqual(list(steps_from(deep, deep.length)), [])
        self.assertEqual(motion_of(deep)(pose_after(deep, deep.length)), pose_after(deep + deep, 2 * deep.length))

    def test_larger_pictures_that_were_returned_may_be_passed_back(self):
        square = drawn(Program("( f100 l )4"))
        self.assertEqual(outline_of(inside_of(square)), square)
        row = drawn(Program("f1000"))
        wide = row ^ row.moved(1000, 0) ^ row.moved(0, 1) ^ row.moved(1000, 1)
        self.assertEqual(Picture(list(wide.edges)), wide)
        self.assertEqual(parts_of(wide), [row ^ row.moved(1000, 0), (row ^ row.moved(1000, 0)).moved(0, 1)])
        self.assertEqual(is_plain(wide, plain_strokes(wide)), True)
        self.assertEqual(len(plain_strokes(wide)), 2)

    def test_larger_numbers_that_were_returned_may_be_passed_back(self):
        deep = Program(nested(12, "f", 10 ** 30))
        spans_of = [(0, deep.length), (deep.length - 5, deep.length + 5)]
        self.assertEqual([covered(spans_of), odd_covered(spans_of)], [deep.length + 5, deep.length])
        self.assertEqual(depth_at(spans_of, deep.length - 1), 2)
        row = Program("f")
        self.assertEqual(times_with(row, deep.length), ([deep.length], None))
        self.assertEqual(rounds_passing(row, (deep.length, 0, 0)), [deep.length])

    def test_larger_pictures_on_sheets_and_as_art(self):
        field = outline_of([(x, y) for x in range(40) for y in range(40) if (x + y) % 2 == 0])
        self.assertEqual(len(field), 3200)
        self.assertEqual(read_art(show_art(field)), field)
        sheet = Sheet()
        self.assertEqual(sheet.lay(field), 3200)
        self.assertEqual(sheet.lay(field), 0)


class FormTest(unittest.TestCase):
    def test_the_folder_holds_only_python_files(self):
        for path in PACKAGE.iterdir():
            self.assertTrue(path.suffix == ".py" or path.name == "__pycache__", path)

    def test_files_are_small_and_plain(self):
        for path in PACKAGE.glob("*.py"):
            text = path.read_text(encoding="utf-8")
            self.assertTrue(text.isascii() and "\t" not in text, path)
            self.assertLess(len(text.splitlines()), 400, path)
            self.assertLessEqual(max([len(line) for line in text.splitlines()]), 120, path)

    def test_functions_are_small(self):
        for path in PACKAGE.glob("*.py"):
            for node in ast.walk(ast.parse(path.read_text(encoding="utf-8"))):
                if isinstance(node, ast.FunctionDef):
                    self.assertLessEqual(node.end_lineno - node.lineno + 1, 40, node.name)

    def test_imports_are_the_packages_own_or_from_math(self):
        for path in PACKAGE.glob("*.py"):
            for node in ast.walk(ast.parse(path.read_text(encoding="utf-8"))):
                self.assertNotIsInstance(node, ast.Import)
                if isinstance(node, ast.ImportFrom):
                    self.assertTrue(node.module.startswith("plotpens.") or node.module == "math", node.module)


if __name__ == "__main__":
    unittest.main()
