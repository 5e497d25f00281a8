"""The interface as DOC.md lists it, the form of the package's files, and the examples in README.md."""

import ast
import doctest
import importlib
import inspect
import pathlib
import unittest

ROOT = pathlib.Path(__file__).parent.parent
PACKAGE = ROOT / "forkspan"
LIBRARY = ("heapq", "math", "itertools", "collections")

# The functions and the class of the interface, and the names of their parameters.
INTERFACE = {
    "programs": {"is_program": ["value"], "words_of": ["program"]},
    "words": {
        "is_words": ["value"], "word_in": ["words", "name"], "words_with": ["words", "name", "value"],
        "operated": ["op", "a", "b"],
    },
    "programtext": {"program_text": ["program"], "read_program": ["text"]},
    "serial": {
        "serial_deeds": ["program", "words"], "serial_end": ["program", "words"],
        "kind_of": ["program", "words", "deed"], "touched_by": ["program", "words", "deed"],
        "result_of": ["program", "words", "deed"],
    },
    "graphs": {
        "is_graph": ["value"], "graph_of": ["program", "words"], "work": ["graph"], "span": ["graph"],
        "heads": ["graph"], "tails": ["graph"], "longest_way": ["graph"], "is_ahead": ["graph", "i", "k"],
        "beside": ["graph", "i"], "in_series": ["graph", "other"], "in_parallel": ["graph", "other"],
    },
    "schedules": {
        "is_schedule": ["graph", "cores", "value"], "is_greedy": ["graph", "cores", "schedule"],
        "ready": ["graph", "done"], "listed": ["graph", "cores", "order"], "step_bound": ["graph", "cores"],
        "idle": ["schedule", "cores"], "cut_down": ["graph", "cores", "schedule"],
    },
    "runs": {
        "run_plan": ["program", "words", "plan"], "first_ready": ["program", "words"],
        "finished": ["program", "words", "plan"], "plan_of": ["program", "words", "schedule"],
        "picked_run": ["program", "words", "cores", "picks"], "all_ends": ["program", "words"],
    },
    "races": {
        "races": ["program", "words"], "first_race": ["program", "words"], "is_calm": ["program", "words"],
        "race_plans": ["program", "words"], "calm_paper": ["program", "words"],
        "calm_holds": ["program", "words", "paper"],
    },
    "stealing": {
        "stolen_run": ["program", "words", "cores", "picks"], "row_bound": ["program", "words"],
        "rows_at": ["program", "words", "cores", "picks", "step"],
    },
    "least": {
        "least": ["graph", "cores"], "area_bound": ["graph", "cores"], "window_bound": ["graph", "cores"],
        "least_schedule": ["graph", "cores"], "length_paper": ["graph", "cores"],
        "length_holds": ["graph", "cores", "n", "paper"],
        "least_holds": ["graph", "cores", "n", "schedule", "paper"],
    },
    "claims": {"is_claim": ["value"], "claim_holds": ["claim", "paper"], "seal_claim": ["claim"]},
    "told": {"told": ["value"], "untold": ["text"]},
    "desk": {"Desk": [], "replayed": ["lines"]},
}


def package_files():
    return sorted(PACKAGE.rglob("*.py"))


class Interface(unittest.TestCase):
    def test_functions_stand_in_their_file_with_their_parameters(self):
        for module_name, functions in INTERFACE.items():
            module = importlib.import_module("forkspan." + module_name)
            for name, parameters in functions.items():
                with self.subTest(module_name, name=name):
                    function = getattr(module, name)
                    self.assertEqual(function.__module__, "forkspan." + module_name)
                    self.assertEqual(list(inspect.signature(function).parameters), parameters)

    def test_a_desk_defines_its_method_and_sets_its_fields(self):
        desk = importlib.import_module("forkspan.desk").Desk
        self.assertEqual(list(inspect.signature(desk.__dict__["run"]).parameters), ["self", "line"])
        self.assertEqual({"claims": (), "lines": ()}.items() & vars(desk()).items(), {"claims": (), "lines": ()}.items())


class Files(unittest.TestCase):
    def test_the_folder_holds_files_of_the_program_alone(self):
        others = [path for path in PACKAGE.rglob("*") if path.suffix != ".py" and "__pycache__" not in path.parts]
        self.assertEqual(others, [])
        self.assertTrue((PACKAGE / "__init__.py").is_file())

    def test_sizes_and_characters(self):
        for path in package_files():
            with self.subTest(path.name):
                text = path.read_text(encoding="utf-8")
                self.assertLessEqual({sign for sign in text if not " " <= sign <= "~"}, {"\n"})
                self.assertLessEqual(len(text.splitlines()), 399)
                self.assertLessEqual(max([len(line) for line in text.splitlines()]), 120)

    def test_functions_are_small(self):
        for path in package_files():
            for node in ast.walk(ast.parse(path.read_text())):
                if isinstance(node, ast.FunctionDef):
                    with self.subTest(path.name, function=node.name):
                        self.assertLessEqual(node.end_lineno - node.lineno + 1, 40)

    def test_imports_are_of_the_package_or_the_allowed_library(self):
        for path in package_files():
            for node in ast.walk(ast.parse(path.read_text())):
                self.assertNotIsInstance(node, ast.Import, path.name)
                if isinstance(node, ast.ImportFrom):
                    with self.subTest(path.name, module=node.module):
                        self.assertEqual(node.level, 0)
                        if node.module not in LIBRARY:
                            self.assertTrue(node.module.startswith("forkspan."))
                            self.defined_in(node)

    def defined_in(self, node):
        """Each imported name is assigned or defined by the very file that it is imported from."""
        tree = ast.parse((ROOT / (node.module.replace(".", "/") + ".py")).read_text())
        defined = []
        for part in tree.body:
            if isinstance(part, (ast.FunctionDef, ast.ClassDef)):
                defined.append(part.name)
            elif isinstance(part, ast.Assign):
                defined.append(part.targets[0].id)
        for alias in node.names:
            self.assertIn(alias.name, defined)
            self.assertIsNone(alias.asname)


class Readme(unittest.TestCase):
    def test_the_examples_hold(self):
        failures, tried = doctest.testfile(str(ROOT / "README.md"), module_relative=False)
        self.assertEqual(failures, 0)
        self.assertGreater(tried, 0)


if __name__ == "__main__":
    unittest.main()
