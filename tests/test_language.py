"""Rules of the language that can be seen in the files of the package, by their numbers."""

import ast
import builtins
import unittest
from pathlib import Path

PACKAGE = Path(__file__).resolve().parent.parent / "nestprops"
FILES = sorted(path for path in PACKAGE.rglob("*") if "__pycache__" not in path.parts)
SOURCES = {path: path.read_bytes() for path in FILES if path.suffix == ".py"}
MODULES = {f"nestprops.{path.stem}" for path in SOURCES}
TREES = {path: ast.parse(source) for path, source in SOURCES.items()}

LIBRARY = ("heapq", "math", "itertools", "collections")
FUNCTIONS = set(
    "len range enumerate zip min max sum abs sorted reversed int str bool bytes list tuple dict set frozenset "
    "isinstance ord repr any all divmod pow iter next map Exception ValueError TypeError KeyError IndexError "
    "LookupError ZeroDivisionError ArithmeticError OverflowError RuntimeError NotImplementedError "
    "AttributeError StopIteration NotImplemented getattr hasattr setattr super property staticmethod classmethod".split())
METHODS = set(
    "append clear copy count endswith extend find get index insert isalnum isalpha isdigit islower isspace "
    "isupper items join keys ljust lower lstrip partition pop remove replace reverse rfind rjust rpartition "
    "rsplit rstrip setdefault split splitlines startswith strip update upper values zfill bit_length add "
    "discard".split())
DOUBLE = set(
    "init eq repr str len enter exit call iter lt le gt ge ne add sub mul floordiv mod pow and or xor lshift "
    "rshift neg pos invert abs bool contains getitem setitem".split())
BARRED = (ast.AsyncFunctionDef, ast.Global, ast.Import, ast.Await, ast.AsyncFor, ast.AsyncWith, ast.Div)


def nodes(*kinds):
    """Return the nodes of some kinds in all files, each with the name of its file."""
    return [(path.name, node) for path, tree in TREES.items() for node in ast.walk(tree) if isinstance(node, kinds)]


class TestFiles(unittest.TestCase):
    def test_the_folder_holds_python_files_alone(self):
        self.assertEqual([path.name for path in FILES if path.suffix != ".py" and not path.is_dir()], [])
        for folder in [PACKAGE, *[path for path in FILES if path.is_dir()]]:
            self.assertTrue((folder / "__init__.py").exists())

    def test_l10_sizes_and_l14_characters(self):
        for path, source in SOURCES.items():
            rows = source.decode("utf-8").split("\n")
            self.assertLess(len(rows), 400, path.name)
            self.assertLessEqual(max(len(row) for row in rows), 120, path.name)
            self.assertTrue(all(byte == 10 or 32 <= byte <= 126 for byte in source), path.name)
        for name, node in nodes(ast.FunctionDef):
            self.assertLessEqual(node.end_lineno - node.lineno + 1, 40, (name, node.name))

    def test_l2_imports(self):
        for name, node in nodes(ast.ImportFrom):
            self.assertEqual(node.level, 0)
            self.assertIn(node.module.split(".")[0], ("nestprops", *LIBRARY), name)
            self.assertNotIn("*", [alias.name for alias in node.names])

    def test_l3_module_level(self):
        for path, tree in TREES.items():
            for node in tree.body:
                plain = isinstance(node, (ast.ImportFrom, ast.FunctionDef, ast.ClassDef, ast.Assign, ast.Expr))
                self.assertTrue(plain, (path.name, node.lineno))
                if isinstance(node, ast.Expr):
                    self.assertIsInstance(node.value, ast.Constant)

    def test_l16_no_imports_in_a_circle(self):
        imported = {}
        for path, tree in TREES.items():
            modules = [node.module for node in tree.body if isinstance(node, ast.ImportFrom)]
            imported[f"nestprops.{path.stem}"] = {one for one in modules if one in MODULES}
        while imported:
            free = [module for module, needs in imported.items() if not needs & set(imported)]
            self.assertTrue(free, imported)
            for module in free:
                del imported[module]


    def test_imports_are_used(self):
        for path, tree in TREES.items():
            imported = {alias.name for node in tree.body if isinstance(node, ast.ImportFrom) for alias in node.names}
            read = {node.id for node in ast.walk(tree) if isinstance(node, ast.Name)}
            self.assertLessEqual(imported, read, path.name)


class TestNames(unittest.TestCase):
    def test_l15_one_binding_for_each_name(self):
        for path, tree in TREES.items():
            imported = [alias.asname or alias.name for node in tree.body if isinstance(node, ast.ImportFrom)
                        for alias in node.names]
            own = [node.name for node in tree.body if isinstance(node, (ast.FunctionDef, ast.ClassDef))]
            own += [node.targets[0].id for node in tree.body if isinstance(node, ast.Assign)]
            self.assertEqual(len(imported + own), len(set(imported + own)), path.name)
            inner = {node.arg for node in ast.walk(tree) if isinstance(node, ast.arg)}
            inner |= {node.id for function in ast.walk(tree) if isinstance(function, ast.FunctionDef)
                      for node in ast.walk(function) if isinstance(node, ast.Name) and isinstance(node.ctx, ast.Store)}
            self.assertEqual(inner & {*imported, *own}, set(), path.name)

    def test_l16_the_file_that_defines_the_name(self):
        defined = {f"nestprops.{path.stem}": {node.name for node in tree.body
                                              if isinstance(node, (ast.FunctionDef, ast.ClassDef))}
                   | {node.targets[0].id for node in tree.body if isinstance(node, ast.Assign)}
                   for path, tree in TREES.items()}
        for name, node in nodes(ast.ImportFrom):
            if node.module in defined:
                self.assertLessEqual({alias.name for alias in node.names}, defined[node.module], name)

    def test_l5_l18_methods_properties_and_attributes(self):
        attributes = {node.attr for _, node in nodes(ast.Attribute) if isinstance(node.ctx, ast.Store)}
        functions = [node for _, owner in nodes(ast.ClassDef) for node in owner.body if isinstance(node, ast.FunctionDef)]
        properties = {node.name for node in functions
                      if any(isinstance(one, ast.Name) and one.id == "property" for one in node.decorator_list)}
        methods = {node.name for node in functions if node.name not in properties}
        self.assertEqual(attributes & (methods | properties), set())
        self.assertEqual(methods & properties, set())


class TestStatements(unittest.TestCase):
    def test_barred_statements(self):
        self.assertEqual([(name, node) for name, node in nodes(*BARRED)], [])

    def test_l4_l5_decorators(self):
        for name, node in nodes(ast.FunctionDef, ast.ClassDef):
            for decorator in node.decorator_list:
                word = decorator.attr if isinstance(decorator, ast.Attribute) else decorator.id
                self.assertIn(word, ("property", "setter", "classmethod", "staticmethod"), (name, node.lineno))
                self.assertIsInstance(node, ast.FunctionDef)

    def test_l5_double_underscores(self):
        for name, node in nodes(ast.FunctionDef):
            if node.name.startswith("__"):
                self.assertIn(node.name[2:-2], DOUBLE, (name, node.lineno))

    def test_l7_generator_expressions(self):
        for name, node in nodes(ast.Call):
            if isinstance(node.func, ast.Name) and node.func.id in ("any", "all", "min", "max", "sum", "sorted"):
                for argument in node.args:
                    self.assertNotIsInstance(argument, ast.GeneratorExp, (name, node.lineno))

    def test_l7_no_star_in_a_set_or_an_index(self):
        inner = [(name, one) for name, node in nodes(ast.Set) for one in node.elts]
        inner += [(name, one) for name, node in nodes(ast.Subscript) for one in ast.walk(node.slice)]
        stars = [(name, node.lineno) for name, node in inner if isinstance(node, ast.Starred)]
        self.assertEqual(stars, [])

    def test_l23_generators_are_iterated_at_once(self):
        generators = {node.name for _, node in nodes(ast.FunctionDef)
                      if any(isinstance(one, (ast.Yield, ast.YieldFrom)) for one in ast.walk(node))}
        iterated = [node.iter for _, node in nodes(ast.For, ast.comprehension)]
        iterated += [node.value for _, node in nodes(ast.YieldFrom)]
        iterated += [argument for _, node in nodes(ast.Call) for argument in node.args[:1]
                     if isinstance(node.func, ast.Name) and node.func.id in ("list", "tuple", "sorted", "dict", "sum")]
        heads = [node.func for node in iterated if isinstance(node, ast.Call)]
        for name, node in nodes(ast.Name):
            if node.id in generators:
                self.assertTrue(any(node is head for head in heads), (name, node.lineno))

    def test_l8_builtins(self):
        for name, node in nodes(ast.Name):
            if node.id in vars(builtins):
                self.assertIn(node.id, FUNCTIONS, (name, node.lineno))
                self.assertIsInstance(node.ctx, ast.Load, (name, node.lineno))
        for name, node in nodes(ast.arg, ast.FunctionDef, ast.ClassDef):
            word = node.arg if isinstance(node, ast.arg) else node.name
            self.assertNotIn(word, vars(builtins), name)

    def test_l25_methods(self):
        own = {node.name for _, node in nodes(ast.FunctionDef)}
        for name, node in nodes(ast.Call):
            if isinstance(node.func, ast.Attribute):
                self.assertIn(node.func.attr, METHODS | own, (name, node.lineno))

    def test_l27_strings_and_numbers(self):
        for name, node in nodes(ast.Constant):
            self.assertNotIsInstance(node.value, (float, complex))
            if isinstance(node.value, str):
                self.assertNotIn("%", node.value, (name, node.lineno))


if __name__ == "__main__":
    unittest.main()
