"""What the document's interface lists, and what can be counted of the language's rules."""

import ast
import builtins
import importlib
import inspect
import pathlib
import unittest

import ridgespans
from ridgespans import boards

FUNCTIONS = {
    "rows": {
        "lot_error": ["value"], "table_error": ["value"], "is_row": ["places", "value"],
        "is_side": ["places", "value"], "shifted": ["side", "number"],
        "laid": ["one_side", "other_side"], "begun": ["row"],
        "is_higher": ["one_side", "other_side"], "led": ["table", "side"],
    },
    "texts": {"lot_text": ["lot"], "parse_lot": ["value"]},
    "spans": {
        "shifts_of": ["lot", "row"], "highest_below": ["lot", "row"], "is_in": ["lot", "row"],
        "fewest_of": ["lot", "row"], "least_lot": ["lot"], "joined": ["one", "other"],
        "within": ["one", "other"], "alike": ["one", "other"], "parting": ["one", "other"],
        "spread": ["one_row", "other_row"], "gap": ["lot", "row"],
    },
    "cuts": {
        "is_cut": ["places", "value"], "keeps": ["cut", "row"], "is_kept": ["cut", "lot"],
        "cut_off": ["lot", "row"], "cut_off_holds": ["lot", "row", "value"],
        "all_keeping": ["places", "cuts"], "parted_by": ["places", "cuts", "cut"],
        "idle_cuts": ["places", "cuts"], "common": ["one", "other"], "cuts_for": ["lot"],
        "cuts_for_holds": ["lot", "value"],
    },
    "bends": {
        "is_bend": ["value"], "height": ["bend", "at"], "reaching": ["bend", "at"], "filled": ["bend"],
        "corners": ["bend"], "by_corners": ["low", "top", "pairs"], "over": ["one_bend", "other_bend"],
        "sum_of": ["one_bend", "other_bend"], "put_in": ["one_bend", "other_bend"],
        "slid": ["bend", "by"], "often": ["bend", "times"], "apart": ["one_bend", "other_bend"],
        "is_under": ["one_bend", "other_bend"], "higher_at": ["one_bend", "other_bend"],
        "taken_out": ["one_bend", "other_bend"], "shared": ["one_bend", "other_bend"],
    },
    "fitting": {
        "lot_of": ["points", "most"], "told_by": ["points", "wanted", "most"],
        "untold": ["points", "wanted", "most"], "leanest": ["points", "wanted", "most"],
    },
    "squares": {
        "weight_of": ["table", "choice"], "heaviest": ["table"], "choices": ["table"], "even_odd": ["table"],
        "prices": ["table"], "prices_hold": ["table", "value"], "standing": ["table"],
        "standing_holds": ["table", "value"], "balance": ["table"], "balance_holds": ["table", "value"],
        "square_of": ["table", "lines", "places"], "rank": ["table"], "rank_square": ["table"],
    },
    "rounds": {
        "is_round": ["table", "value"], "mean": ["table"], "best_round": ["table"], "props": ["table", "bound"],
        "props_hold": ["table", "bound", "value"], "above": ["table", "bound"], "ways": ["table", "number"],
        "calm": ["table", "number"], "rests": ["table", "number"], "rest_numbers": ["table"],
    },
    "doubles": {
        "solves": ["left", "right", "row"], "solutions": ["left", "right"], "equal_solutions": ["left", "right"],
        "filled_places": ["left", "right"], "plan": ["left", "right"], "plan_holds": ["left", "right", "value"],
        "shown": ["left", "right", "place"], "shown_holds": ["left", "right", "place", "value"],
    },
    "games": {
        "game_error": ["value"], "mean_from": ["game", "low", "high"], "worths": ["game"], "line_worths": ["game"],
        "best_low": ["game"], "best_high": ["game"], "is_best_low": ["game", "value"],
        "is_best_high": ["game", "value"],
    },
    "wishes": {
        "highest_to": ["table", "wish"], "is_met": ["table", "wish"], "missed": ["table", "wish"],
        "is_cover": ["table", "wish", "value"], "least_covers": ["table", "wish"], "least_to": ["table", "wish"],
        "off": ["table", "wish"],
    },
    "beats": {
        "power": ["table", "n"], "entry_at": ["table", "n", "line", "place"], "led_often": ["table", "side", "n"],
        "best_walk": ["table", "n", "line", "place"], "walk_holds": ["table", "n", "line", "place", "value"],
        "beat": ["table", "line", "place"], "growth": ["table", "line", "place"], "whole_beat": ["table"],
        "first_at_least": ["table", "line", "place", "number"], "lasting": ["table", "one_entry", "other_entry"],
    },
}

METHODS = {
    "boards": {
        "Board": {
            "__init__": ["value"], "__len__": [], "__getitem__": None, "__contains__": None, "__iter__": [],
            "__str__": [], "__eq__": None, "least": [], "has": ["row"], "shifts": ["row"], "below": ["row"],
            "cut": ["row"], "add": ["row"], "drop": ["index"], "put": ["index", "row"], "shift": ["index", "number"],
            "lay": ["index", "other"], "tidy": [], "batch": ["edits"], "undo": [], "redo": [], "at": ["version"],
            "news": [], "copy": [], "attempt": ["work"],
        },
        "KeptBoard": {"__init__": ["value"]},
    },
    "shells": {"Shell": {"__init__": [], "say": ["line"]}},
}

# What the language's rules let be imported from beside the package, be called and be used of Python's own.
LIBRARY = {"math": {"gcd", "lcm", "isqrt"}}
BUILTINS = set("""
    len range enumerate zip min max sum abs sorted reversed int str bool list tuple dict set isinstance ord repr any all
    divmod pow iter next map type super property Exception ValueError TypeError KeyError IndexError LookupError
    ZeroDivisionError ArithmeticError OverflowError RuntimeError NotImplementedError StopIteration NotImplemented
""".split())
VALUE_METHODS = set("""
    append clear copy count endswith extend find get index insert isalnum isalpha isdigit islower isspace isupper items
    join keys ljust lower lstrip partition pop remove replace reverse rfind rjust rpartition rsplit rstrip setdefault
    split splitlines startswith strip update upper values zfill bit_length isascii isdecimal removeprefix removesuffix
""".split())

FOLDER = pathlib.Path(ridgespans.__file__).parent


class Interface(unittest.TestCase):
    def test_each_function_is_defined_in_its_file_with_its_arguments(self):
        for name, functions in FUNCTIONS.items():
            module = importlib.import_module(f"ridgespans.{name}")
            for function, arguments in functions.items():
                with self.subTest(f"{name}.{function}"):
                    self.check_function(getattr(module, function), module, arguments)

    def test_each_method_is_defined_in_its_class_with_its_arguments(self):
        for name, classes in METHODS.items():
            module = importlib.import_module(f"ridgespans.{name}")
            for kind, methods in classes.items():
                for method, arguments in methods.items():
                    with self.subTest(f"{kind}.{method}"):
                        function = vars(getattr(module, kind))[method]
                        if arguments is not None:
                            self.check_function(function, module, ["self", *arguments])

    def test_lot_and_version_are_properties_of_boards(self):
        for name in ("lot", "version"):
            self.assertIsInstance(vars(boards.Board)[name], property)
        self.assertTrue(issubclass(boards.KeptBoard, boards.Board))

    def check_function(self, function, module, arguments):
        self.assertEqual(function.__module__, module.__name__)
        parameters = inspect.signature(function).parameters.values()
        self.assertEqual([parameter.name for parameter in parameters], arguments)
        for parameter in parameters:
            self.assertEqual(parameter.kind, inspect.Parameter.POSITIONAL_OR_KEYWORD)
            self.assertIs(parameter.default, inspect.Parameter.empty)


class Files(unittest.TestCase):
    def files(self):
        for path in sorted(FOLDER.glob("*.py")):
            with self.subTest(path.name):
                yield path.read_text(encoding="utf-8")

    def test_the_folder_holds_python_files_alone(self):
        for path in FOLDER.iterdir():
            self.assertTrue(path.suffix == ".py" or path.name == "__pycache__", path.name)
        self.assertTrue((FOLDER / "__init__.py").is_file())

    def test_signs_and_sizes(self):
        for text in self.files():
            self.assertTrue(text.isascii())
            self.assertNotIn("\t", text)
            self.assertLessEqual(len(text.splitlines()), 399)
            self.assertLessEqual(max(map(len, text.splitlines())), 120)

    def test_sizes_of_functions(self):
        for text in self.files():
            for node in ast.walk(ast.parse(text)):
                if isinstance(node, ast.FunctionDef):
                    self.assertLessEqual(node.end_lineno - node.lineno + 1, 40, node.name)

    def test_builtins_and_methods_of_builtin_values(self):
        for text in self.files():
            tree = ast.parse(text)
            names = {node.id for node in ast.walk(tree)
                     if isinstance(node, ast.Name) and isinstance(node.ctx, ast.Load)}
            self.assertLessEqual(names & set(dir(builtins)), BUILTINS)
            own = {node.name for node in ast.walk(tree) if isinstance(node, ast.FunctionDef)}
            own |= {method for classes in METHODS.values() for methods in classes.values() for method in methods}
            called = {node.func.attr for node in ast.walk(tree)
                      if isinstance(node, ast.Call) and isinstance(node.func, ast.Attribute)}
            self.assertLessEqual(called, VALUE_METHODS | own)

    def test_a_star_stands_in_no_call_of_a_name_that_builtin_values_have(self):
        kinds = (str, bytes, int, list, tuple, dict, set, frozenset)
        of_values = {name for kind in kinds for name in dir(kind) if not name.startswith("__")}
        for text in self.files():
            for node in ast.walk(ast.parse(text)):
                if isinstance(node, ast.Call) and isinstance(node.func, ast.Attribute):
                    stars = [part for part in node.args if isinstance(part, ast.Starred)]
                    stars += [part for part in node.keywords if part.arg is None]
                    self.assertFalse(stars and node.func.attr in of_values, (node.func.attr, node.lineno))

    def test_what_does_not_occur(self):
        # With a class that has __eq__, even any and all take lists.
        barred = (ast.GeneratorExp, ast.Global, ast.AsyncFunctionDef, ast.AnnAssign, ast.Lambda, ast.Yield, ast.SetComp)
        for text in self.files():
            for node in ast.walk(ast.parse(text)):
                self.assertNotIsInstance(node, barred)
            for line in text.split("\n"):
                self.assertNotRegex(line, r"\b(register|elements|open|input|law|Meta|metaclass)\b|\(type\)|\.sort\(")

    def test_imports_name_the_file_that_defines_the_name(self):
        for text in self.files():
            for node in ast.walk(ast.parse(text)):
                self.assertNotIsInstance(node, ast.Import)
                if isinstance(node, ast.ImportFrom):
                    self.check_import(node)

    def check_import(self, node):
        if node.module in LIBRARY:
            self.assertLessEqual({alias.name for alias in node.names}, LIBRARY[node.module])
            return
        self.assertEqual((node.level, node.module.split(".")[0]), (0, "ridgespans"))
        tree = ast.parse((FOLDER / f"{node.module.split('.')[1]}.py").read_text(encoding="utf-8"))
        defined = [part.name for part in tree.body if hasattr(part, "name")]
        for part in tree.body:
            if isinstance(part, ast.Assign):
                defined.append(part.targets[0].id)
        for alias in node.names:
            self.assertIn(alias.name, defined)

    def test_no_local_name_is_that_of_an_import_or_of_a_function_of_its_file(self):
        for text in self.files():
            tree = ast.parse(text)
            taken = {alias.name for node in tree.body if isinstance(node, ast.ImportFrom) for alias in node.names}
            taken |= {node.name for node in tree.body if isinstance(node, (ast.FunctionDef, ast.ClassDef))}
            local = {node.arg for node in ast.walk(tree) if isinstance(node, ast.arg)}
            for part in tree.body:
                if isinstance(part, (ast.FunctionDef, ast.ClassDef)):
                    local |= {node.id for node in ast.walk(part)
                              if isinstance(node, ast.Name) and isinstance(node.ctx, ast.Store)}
            self.assertEqual(local & taken, set())
            self.assertEqual((local | taken) & set(dir(builtins)), set())


if __name__ == "__main__":
    unittest.main()
