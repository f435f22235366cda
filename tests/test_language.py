"""Rules of ../shared/LANGUAGE.md that a look at the files of the package can tell."""

import ast
import builtins
import pathlib
import re
import unittest

import uprightletters

FOLDER = pathlib.Path(uprightletters.__file__).parent

CALLED = """len range enumerate zip min max sum abs sorted reversed int str bool bytes list tuple dict set frozenset
isinstance ord repr any all divmod Exception ValueError TypeError KeyError IndexError LookupError ZeroDivisionError
ArithmeticError OverflowError RuntimeError NotImplementedError AttributeError StopIteration NotImplemented iter next
property staticmethod classmethod super""".split()

METHODS = """append clear copy count endswith extend find get index insert isalnum isalpha isdigit islower isspace
isupper items join keys ljust lower lstrip partition pop remove replace reverse rfind rjust rpartition rsplit rstrip
setdefault split splitlines startswith strip update upper values zfill bit_length add discard sort""".split()

WORDS = """type typing typing_extensions enum Enum IntEnum StrEnum Flag IntFlag Generic Protocol ABC ABCMeta namedtuple
NamedTuple TypedDict TYPE_CHECKING abstractmethod""".split()

BARRED = (ast.Global, ast.AsyncFunctionDef, ast.AsyncFor, ast.AsyncWith, ast.Await, ast.Div, ast.MatMult, ast.Import)


def files():
    return sorted(path for path in FOLDER.iterdir() if path.name != "__pycache__")


def trees():
    return [(path, ast.parse(path.read_text(encoding="ascii"))) for path in files()]


def nodes(*kinds):
    return [(f"{path.name}:{getattr(node, 'lineno', 0)}", node) for path, tree in trees() for node in ast.walk(tree)
            if isinstance(node, kinds)]


class TestFiles(unittest.TestCase):

    def test_names(self):
        for path in files():
            self.assertRegex(path.name, r"^(__init__|[a-z][a-z0-9_]*)\.py$")
            self.assertTrue(path.is_file())

    def test_lines_and_characters(self):
        for path in files():
            text = path.read_text(encoding="ascii")
            self.assertRegex(text, r"\A[ -~\n]*\Z", path.name)
            lines = text.splitlines()
            self.assertLessEqual(len(lines), 399, path.name)
            self.assertLessEqual(max(map(len, lines)), 120, path.name)

    def test_words_that_do_not_occur(self):
        for path in files():
            text = path.read_text(encoding="ascii")
            self.assertEqual([word for word in re.findall(r"\w+", text) if word in WORDS], [], path.name)
            self.assertIsNone(re.search("dataclass|overload|contextmanager", text), path.name)

    def test_size_of_functions(self):
        for place, node in nodes(ast.FunctionDef):
            self.assertLessEqual(node.end_lineno - node.lineno + 1, 40, place)

    def test_imports(self):
        for path, tree in trees():
            body = [node for node in tree.body if not isinstance(node, ast.Expr)]
            heads = [node for node in body if isinstance(node, ast.ImportFrom)]
            self.assertEqual(body[:len(heads)], heads, path.name)
            for node in heads:
                self.assertEqual(node.level, 0, path.name)
                source = (FOLDER / (node.module.removeprefix("uprightletters.") + ".py")).read_text(encoding="ascii")
                for alias in node.names:
                    self.assertRegex(source, rf"(?m)^((def|class) {alias.name}\b|{alias.name} = )", path.name)

    def test_no_two_files_import_from_each_other(self):
        wanted = {path.stem: [node.module.rpartition(".")[2] for node in tree.body if isinstance(node, ast.ImportFrom)]
                  for path, tree in trees()}
        while wanted:
            ready = [name for name in wanted if not set(wanted[name]) & set(wanted)]
            self.assertNotEqual(ready, [], wanted)
            for name in ready:
                del wanted[name]

    def test_module_level(self):
        kinds = (ast.Expr, ast.ImportFrom, ast.FunctionDef, ast.ClassDef, ast.Assign)
        for path, tree in trees():
            self.assertEqual([node for node in tree.body if not isinstance(node, kinds)], [], path.name)


class TestNames(unittest.TestCase):

    def test_plain_names(self):
        bound = [(place, node.id) for place, node in nodes(ast.Name) if isinstance(node.ctx, ast.Store)]
        bound += [(place, node.arg) for place, node in nodes(ast.arg)]
        bound += [(place, node.name) for place, node in nodes(ast.ClassDef)]
        methods = [item for place, node in nodes(ast.ClassDef) for item in ast.walk(node)]
        methods = {(item.name, item.lineno) for item in methods if isinstance(item, ast.FunctionDef)}
        bound += [(place, node.name) for place, node in nodes(ast.FunctionDef)
                  if (node.name, node.lineno) not in methods]
        for place, name in bound:
            self.assertFalse(name.startswith("_") or hasattr(builtins, name), f"{place} {name}")

    def test_builtins(self):
        for place, node in nodes(ast.Name):
            if hasattr(builtins, node.id):
                self.assertIn(node.id, CALLED, place)

    def test_methods(self):
        own = {item.name for place, node in nodes(ast.ClassDef) for item in node.body
               if isinstance(item, ast.FunctionDef)}
        for place, node in nodes(ast.Call):
            if isinstance(node.func, ast.Attribute):
                self.assertIn(node.func.attr, own | set(METHODS), place)

    def test_names_of_classes_and_imports_mean_nothing_else(self):
        for path, tree in trees():
            taken = {alias.name for node in tree.body if isinstance(node, ast.ImportFrom) for alias in node.names}
            taken |= {node.name for node in tree.body if isinstance(node, ast.ClassDef)}
            names = [node for node in ast.walk(tree) if isinstance(node, (ast.Name, ast.arg))]
            bound = {node.arg if isinstance(node, ast.arg) else node.id for node in names
                     if isinstance(node, ast.arg) or isinstance(node.ctx, ast.Store)}
            self.assertEqual(taken & bound, set(), path.name)

    def test_methods_and_attributes_have_other_names(self):
        own = {item.name for place, node in nodes(ast.ClassDef) for item in node.body
               if isinstance(item, ast.FunctionDef)}
        assigned = {node.attr for place, node in nodes(ast.Attribute) if isinstance(node.ctx, ast.Store)}
        self.assertEqual(own & assigned, set())
        read = {(place, node.attr) for place, node in nodes(ast.Attribute)}
        self.assertEqual({(place, name) for place, name in read if name not in own | assigned | set(METHODS)}, set())

    def test_imported_names_are_used(self):
        for path, tree in trees():
            used = {node.id for node in ast.walk(tree) if isinstance(node, ast.Name)}
            for node in ast.walk(tree):
                if isinstance(node, ast.ImportFrom):
                    self.assertLessEqual({alias.name for alias in node.names}, used, path.name)


class TestNodes(unittest.TestCase):

    def test_barred(self):
        self.assertEqual([place for place, node in nodes(*BARRED)], [])

    def test_no_float_and_no_percent_sign(self):
        for place, node in nodes(ast.Constant):
            self.assertNotIsInstance(node.value, (float, complex), place)
            self.assertFalse(isinstance(node.value, str) and "%" in node.value, place)

    def test_is_with_none_true_and_false_alone(self):
        for place, node in nodes(ast.Compare):
            for sign, right in zip(node.ops, node.comparators):
                if isinstance(sign, (ast.Is, ast.IsNot)):
                    self.assertTrue(isinstance(right, ast.Constant) and right.value in (None, True, False), place)

    def test_dicts_are_copied_by_loops_and_comprehensions(self):
        for place, node in nodes(ast.Call):
            called = node.func.attr if isinstance(node.func, ast.Attribute) else getattr(node.func, "id", "")
            self.assertNotIn(called, ("dict", "copy", "update"), place)

    def test_no_decorators_but_property(self):
        for place, node in nodes(ast.FunctionDef, ast.ClassDef):
            self.assertIn([ast.unparse(item) for item in node.decorator_list], ([], ["property"]), place)

    def test_what_an_exit_does(self):
        exits = [(place, node) for place, node in nodes(ast.FunctionDef) if node.name == "__exit__"]
        self.assertEqual(len(exits), 1)
        for place, node in exits:
            for row in node.body:
                self.assertIsInstance(row, ast.Assign, place)
                self.assertIsInstance(row.value, ast.Attribute, place)
                self.assertEqual([item for item in row.targets if not isinstance(item, ast.Attribute)], [], place)

    def test_raised_errors_are_created_on_the_spot(self):
        for place, node in nodes(ast.Raise):
            self.assertIsInstance(node.exc, ast.Call, place)
            self.assertIsInstance(node.exc.func, ast.Name, place)

    def test_tables_at_module_level_hold_no_lists_and_dicts(self):
        for path, tree in trees():
            for node in tree.body:
                if isinstance(node, ast.Assign):
                    inner = [item for item in ast.walk(node.value) if item != node.value]
                    self.assertEqual([item for item in inner if isinstance(item, (ast.List, ast.Dict, ast.Set))], [])

    def test_generators_are_iterated_at_once(self):
        made = {node.name for place, node in nodes(ast.FunctionDef)
                if any(isinstance(item, (ast.Yield, ast.YieldFrom)) for item in ast.walk(node))}
        self.assertEqual(made, {"cuts", "runs"})
        takers = ("list", "tuple", "sorted", "sum", "min", "max", "any", "all", "enumerate", "zip")
        taken = [item for place, node in nodes(ast.For, ast.comprehension) for item in [node.iter]]
        taken += [node.args[0] for place, node in nodes(ast.Call)
                  if isinstance(node.func, ast.Name) and node.func.id in takers and node.args]
        for place, node in nodes(ast.Call):
            if isinstance(node.func, ast.Name) and node.func.id in made:
                self.assertIn(ast.dump(node), [ast.dump(item) for item in taken], place)
        called = [node.func for place, node in nodes(ast.Call) if isinstance(node.func, ast.Name)]
        for place, node in nodes(ast.Name):
            if node.id in made:
                self.assertIn((node.lineno, node.id), [(one.lineno, one.id) for one in called], place)

    def test_lists_beside_equality(self):
        for place, node in nodes(ast.Call):
            if isinstance(node.func, ast.Name) and node.func.id in ("any", "all", "min", "max", "sum", "sorted"):
                self.assertFalse([x for x in node.args if isinstance(x, ast.GeneratorExp)], place)


if __name__ == "__main__":
    unittest.main()
