"""The form of the program: those rules of shared/LANGUAGE.md that can be seen in one look at its files."""

import ast
import builtins
import pathlib
import re
import unittest

PACKAGE = pathlib.Path(__file__).resolve().parent.parent / "toldmoment"
TREES = {path: ast.parse(path.read_text()) for path in sorted(PACKAGE.rglob("*.py"))}

BUILTINS = set("""
len range enumerate zip min max sum abs sorted reversed int str bool list tuple dict set isinstance ord repr any all divmod
ValueError KeyError IndexError TypeError
""".split())
METHODS = set("""
append clear copy count endswith extend find get index insert isalnum isalpha isdigit islower isspace isupper items join
keys ljust lower lstrip partition pop remove replace reverse rfind rjust rpartition rsplit rstrip setdefault split
splitlines startswith strip update upper values zfill bit_length isascii isprintable
""".split())
# Generator expressions are barred beside classes that have an __eq__ (L7): lists serve as well.
BARRED_NODES = (
    ast.AsyncFunctionDef, ast.AsyncFor, ast.AsyncWith, ast.Await, ast.Import, ast.Div, ast.TryStar, ast.GeneratorExp,
)
BARRED_WORDS = set("""
register mro elements open input law version_info with_traceback add_note type typing typing_extensions enum Enum IntEnum
StrEnum Flag IntFlag Generic Protocol ABC ABCMeta namedtuple NamedTuple TypedDict TYPE_CHECKING abstractmethod
""".split())


def bound_names(tree):
    """All names that a file gives a meaning: functions, classes, parameters, variables."""
    for node in ast.walk(tree):
        if isinstance(node, (ast.FunctionDef, ast.ClassDef)):
            yield node.name
        elif isinstance(node, ast.arg):
            yield node.arg
        elif isinstance(node, ast.Name) and isinstance(node.ctx, ast.Store):
            yield node.id


def module_names(tree):
    """The names that a file binds at its module level by itself."""
    for node in tree.body:
        if isinstance(node, (ast.FunctionDef, ast.ClassDef)):
            yield node.name
        elif isinstance(node, ast.Assign):
            yield node.targets[0].id


def asked_for_their_class(tree):
    """Each `type` that stands in `type(x).__name__`, the only way in which L8 lets it stand here."""
    return [node.value.func for node in ast.walk(tree)
            if isinstance(node, ast.Attribute) and node.attr == "__name__" and isinstance(node.value, ast.Call)
            and isinstance(node.value.func, ast.Name) and node.value.func.id == "type" and len(node.value.args) == 1]


def imports_of(tree):
    return [node for node in tree.body if isinstance(node, ast.ImportFrom)]


class Language(unittest.TestCase):

    def each_node(self, kinds):
        for path, tree in TREES.items():
            for node in ast.walk(tree):
                if isinstance(node, kinds):
                    yield f"{path.name}:{getattr(node, 'lineno', 0)}", node

    def test_the_package_holds_python_files_alone(self):
        for path in PACKAGE.rglob("*"):
            if "__pycache__" not in path.parts:
                self.assertRegex(path.name, r"^[a-z0-9_]+\.py$")
        self.assertLessEqual(len(TREES), 100)

    def test_sizes_and_signs(self):
        for path, tree in TREES.items():
            text = path.read_text()
            self.assertLessEqual(len(text.splitlines()), 399, path.name)
            for number, line in enumerate(text.split("\n"), 1):
                self.assertRegex(line, r"^[ -~]{0,120}$", f"{path.name}:{number}")
            for node in ast.walk(tree):
                if isinstance(node, ast.FunctionDef):
                    self.assertLessEqual(node.end_lineno - node.lineno + 1, 40, node.name)

    def test_module_level_holds_docstring_imports_functions_classes_and_names(self):
        for path, tree in TREES.items():
            self.assertTrue(ast.get_docstring(tree), path.name)
            for node in tree.body[1:]:
                self.assertIsInstance(node, (ast.ImportFrom, ast.FunctionDef, ast.ClassDef, ast.Assign), path.name)
                if isinstance(node, ast.Assign):
                    self.assertEqual([type(target) for target in node.targets], [ast.Name], path.name)
            names = [*module_names(tree), *[one.name for node in imports_of(tree) for one in node.names]]
            self.assertEqual(len(names), len(set(names)), path.name)

    def test_imports_name_the_file_that_defines_the_name_and_lead_nowhere_in_a_circle(self):
        needs = {}
        for path, tree in TREES.items():
            needs[path.stem] = []
            for node in imports_of(tree):
                self.assertRegex(node.module, r"^toldmoment\.[a-z]+$")
                target = PACKAGE / (node.module.split(".")[1] + ".py")
                needs[path.stem].append(target.stem)
                for one in node.names:
                    self.assertIsNone(one.asname)
                    self.assertIn(one.name, list(module_names(TREES[target])), path.name)
        while needs:
            free = [name for name in needs if not set(needs[name]) & set(needs)]
            self.assertTrue(free, needs)
            needs = {name: needs[name] for name in needs if name not in free}

    def test_what_is_imported_is_used(self):
        for path, tree in TREES.items():
            used = {node.id for node in ast.walk(tree) if isinstance(node, ast.Name)}
            for node in imports_of(tree):
                for one in node.names:
                    self.assertIn(one.name, used, path.name)

    def test_nodes_that_are_not_used(self):
        for where, node in self.each_node(BARRED_NODES):
            self.fail(f"{where} {type(node).__name__}")

    def test_builtins_and_methods_are_those_that_are_allowed(self):
        for path, tree in TREES.items():
            known = {*bound_names(tree), *[one.name for node in imports_of(tree) for one in node.names]}
            known |= {node.name for node in ast.walk(tree) if isinstance(node, ast.ExceptHandler)}
            asked = asked_for_their_class(tree)
            for node in ast.walk(tree):
                if isinstance(node, ast.Name) and node.id not in known and node not in asked:
                    self.assertIn(node.id, BUILTINS, f"{path.name}:{node.lineno}")
        own = {part.name for _, node in self.each_node(ast.ClassDef) for part in node.body
               if isinstance(part, ast.FunctionDef)}
        for where, node in self.each_node(ast.Call):
            if isinstance(node.func, ast.Attribute) and node.func.attr not in own:
                self.assertIn(node.func.attr, METHODS, where)
                self.assertFalse(node.keywords, where)

    def test_names_are_plain_and_none_of_pythons(self):
        for path, tree in TREES.items():
            for name in bound_names(tree):
                self.assertRegex(name, r"^(_|_?[a-zA-Z][a-zA-Z0-9_]*|__[a-z]+__)$", path.name)
                self.assertNotIn(name, BARRED_WORDS, path.name)
                # The doctests leave a builtin called _ behind.
                self.assertTrue(name == "_" or name not in dir(builtins), f"{path.name} {name}")

    def test_words_and_strings_that_do_not_occur(self):
        for where, node in self.each_node(ast.Constant):
            if isinstance(node.value, str) and not node.value.count("\n") and " " not in node.value:
                self.assertFalse(set(re.findall(r"\w+", node.value)) & BARRED_WORDS, where)
            if isinstance(node.value, str):
                self.assertNotIn("%", node.value, where)
                self.assertNotRegex(node.value, r"\._+$|^__.*__$", where)
            self.assertNotIsInstance(node.value, (float, complex), where)

    def test_locals_are_not_called_as_an_import_or_a_class_of_their_file(self):
        for path, tree in TREES.items():
            taken = {one.name for node in imports_of(tree) for one in node.names}
            taken |= {node.name for node in tree.body if isinstance(node, ast.ClassDef)}
            inside = [name for node in tree.body if isinstance(node, ast.FunctionDef) for name in bound_names(node)]
            self.assertFalse(taken & set(inside), path.name)

    def test_is_stands_beside_none_true_and_false_alone(self):
        for where, node in self.each_node(ast.Compare):
            for sign, other in zip(node.ops, node.comparators):
                if isinstance(sign, (ast.Is, ast.IsNot)):
                    self.assertIsInstance(other, ast.Constant, where)

    def test_no_set_is_stored(self):
        # Books have a method add, so sets may not be added to (L24): none is kept at all.
        for where, node in self.each_node(ast.Assign):
            self.assertNotIsInstance(node.value, (ast.Set, ast.SetComp), where)
            if isinstance(node.value, ast.Call) and isinstance(node.value.func, ast.Name):
                self.assertNotEqual(node.value.func.id, "set", where)

    def test_attributes_are_not_called_as_methods_of_builtin_values_or_of_their_class(self):
        builtin = {name for kind in (str, int, list, dict, set, bytes) for name in dir(kind)}
        for where, node in self.each_node(ast.ClassDef):
            methods = {part.name for part in node.body if isinstance(part, ast.FunctionDef)}
            attributes = {part.attr for part in ast.walk(node)
                          if isinstance(part, ast.Attribute) and isinstance(part.ctx, ast.Store)}
            self.assertFalse(attributes & (methods | builtin), where)
            self.assertFalse((methods & builtin) - {"__init__", "__eq__", "add", "copy"}, where)
