"""The package keeps to the small part of Python that it is written in (what of it can be seen by a walk)."""

import ast
import builtins
import os
import re
import unittest

PACKAGE = "sealpress"
ROOT = os.path.dirname(os.path.dirname(os.path.abspath(__file__)))

BUILTINS = set("""len range enumerate zip min max sum abs sorted reversed int str bool list tuple dict set
frozenset isinstance ord repr any all divmod Exception ValueError TypeError KeyError IndexError LookupError
ZeroDivisionError ArithmeticError OverflowError RuntimeError NotImplementedError AttributeError
StopIteration""".split())
METHODS = set("""append clear copy count endswith extend find get index insert isalnum isalpha isdigit islower
isspace isupper items join keys ljust lower lstrip partition pop remove replace reverse rfind rjust rpartition
rsplit rstrip setdefault split splitlines startswith strip update upper values zfill bit_length""".split())
SPECIAL = {"__init__", "__eq__", "__repr__", "__str__", "__len__"}
NOWHERE = {"register", "mro", "elements", "open", "input", "version_info", "with_traceback", "add_note",
           "format", "format_map", "args"}
NO_WORDS = set("""type typing typing_extensions enum Enum IntEnum StrEnum Flag IntFlag Generic Protocol ABC
ABCMeta namedtuple NamedTuple TypedDict TYPE_CHECKING abstractmethod""".split())
STATEMENTS = (ast.FunctionDef, ast.ClassDef, ast.Return, ast.Assign, ast.AugAssign, ast.For, ast.While, ast.If,
              ast.Raise, ast.Try, ast.ImportFrom, ast.Expr, ast.Pass, ast.Break, ast.Continue)
EXPRESSIONS = (ast.BoolOp, ast.BinOp, ast.UnaryOp, ast.Lambda, ast.IfExp, ast.Dict, ast.Set, ast.ListComp,
               ast.Compare, ast.Call, ast.FormattedValue, ast.JoinedStr, ast.Constant, ast.Attribute,
               ast.Subscript, ast.Name, ast.List, ast.Tuple, ast.Slice)


def package_files():
    """Each file of the package: its name and its text."""
    folder = os.path.join(ROOT, PACKAGE)
    files = []
    for name in sorted(os.listdir(folder)):
        if name != "__pycache__":
            with open(os.path.join(folder, name), encoding="utf-8", newline="") as file:
                files.append((name, file.read()))
    return files


def bound_names(tree):
    """All names that a file binds."""
    names = [node.id for node in ast.walk(tree) if isinstance(node, ast.Name) and isinstance(node.ctx, ast.Store)]
    names += [node.arg for node in ast.walk(tree) if isinstance(node, ast.arg)]
    names += [node.name for node in ast.walk(tree) if isinstance(node, (ast.FunctionDef, ast.ClassDef))]
    return names


class LanguageTest(unittest.TestCase):
    def setUp(self):
        self.files = package_files()
        self.trees = [(name, ast.parse(text)) for name, text in self.files]

    def nodes(self, kinds):
        return [(name, node) for name, tree in self.trees for node in ast.walk(tree) if isinstance(node, kinds)]

    def test_files(self):
        self.assertIn("__init__.py", [name for name, text in self.files])
        for name, text in self.files:
            self.assertRegex(name, r"^(__init__|[a-z][a-z0-9_]*)\.py$")
            self.assertNotIn(name[:-3], dir(builtins))
            self.assertRegex(text, r"\A[\n -~]*\Z", name)
            self.assertLessEqual(len(text.splitlines()), 400, name)
            self.assertLessEqual(max(map(len, text.splitlines())), 120, name)

    def test_words_that_stand_nowhere(self):
        for name, text in self.files:
            self.assertEqual(set(re.findall(r"\w+", text)) & NO_WORDS, set(), name)
            self.assertIsNone(re.search("dataclass|overload|contextmanager", text), name)

    def test_statements_and_expressions(self):
        for name, node in self.nodes(ast.stmt):
            self.assertIsInstance(node, STATEMENTS, (name, node.lineno))
        for name, node in self.nodes(ast.expr):
            self.assertIsInstance(node, EXPRESSIONS, (name, node.lineno))
        for name, node in self.nodes((ast.For, ast.While)):
            self.assertEqual(node.orelse, [], (name, node.lineno))
        for name, node in self.nodes(ast.Assign):
            self.assertEqual(len(node.targets), 1, (name, node.lineno))
            self.assertNotIsInstance(node.targets[0], (ast.Tuple, ast.List), (name, node.lineno))
        for name, node in self.nodes((ast.Div, ast.MatMult)):
            self.fail(name)

    def test_texts_and_numbers(self):
        for name, node in self.nodes(ast.Constant):
            self.assertIn(type(node.value), (int, str, bool, type(None)), (name, node.lineno))
            if isinstance(node.value, str):
                self.assertNotIn(chr(37), node.value, (name, node.lineno))

    def test_functions(self):
        for name, node in self.nodes(ast.FunctionDef):
            self.assertLessEqual(node.end_lineno - node.lineno + 1, 40, (name, node.name))
            self.assertEqual(node.decorator_list, [], (name, node.name))
            arguments = node.args
            self.assertEqual((arguments.vararg, arguments.kwarg, arguments.kwonlyargs, arguments.posonlyargs),
                             (None, None, [], []), (name, node.name))

    def test_classes(self):
        for name, node in self.nodes(ast.ClassDef):
            self.assertLessEqual(len(node.bases), 1, (name, node.name))
            for part in node.body:
                self.assertIsInstance(part, (ast.FunctionDef, ast.Expr, ast.Pass), (name, node.name))

    def test_no_name_is_a_method_and_a_value(self):
        methods = {part.name for name, node in self.nodes(ast.ClassDef) for part in node.body
                   if isinstance(part, ast.FunctionDef)}
        values = {node.attr for name, node in self.nodes(ast.Attribute) if isinstance(node.ctx, ast.Store)}
        self.assertEqual(methods & values, set())
        own = set(dir(str) + dir(int) + dir(list) + dir(dict) + dir(set) + dir(bytes))
        self.assertEqual((methods - SPECIAL) & own - METHODS - {"add", "discard"}, set())
        self.assertEqual(values & own - {"count", "index", "title", "find", "join", "lower", "upper", "split", "strip",
                                         "get", "copy", "add"}, set())

    def test_names(self):
        for name, tree in self.trees:
            drawn = [alias.name for node in tree.body if isinstance(node, ast.ImportFrom) for alias in node.names]
            for word in bound_names(tree):
                if word not in SPECIAL:
                    self.assertRegex(word, r"^[A-Za-z][A-Za-z0-9_]*$", name)
                    self.assertNotIn(word, NOWHERE, name)
                    self.assertNotIn(word, drawn, name)
        for name, node in self.nodes((ast.Name, ast.arg)):
            word = node.id if isinstance(node, ast.Name) else node.arg
            if word in dir(builtins):
                self.assertIn(word, BUILTINS, (name, node.lineno))
                self.assertNotIsInstance(getattr(node, "ctx", None), ast.Store, (name, node.lineno))
                self.assertIsInstance(node, ast.Name, (name, node.lineno))

    def test_attributes(self):
        own = {node.name for name, node in self.nodes(ast.FunctionDef)}
        for name, node in self.nodes(ast.Attribute):
            self.assertNotIn(node.attr, NOWHERE, (name, node.lineno))
        for name, node in self.nodes(ast.Call):
            if isinstance(node.func, ast.Attribute):
                self.assertIn(node.func.attr, METHODS | own, (name, node.lineno))

    def test_imports_go_to_own_files_and_never_round(self):
        drawn = {}
        for name, tree in self.trees:
            drawn[name[:-3]] = []
            for node in ast.walk(tree):
                if isinstance(node, ast.ImportFrom):
                    self.assertIn(node, tree.body, name)
                    self.assertEqual(node.level, 0, name)
                    self.assertRegex(node.module, "^" + PACKAGE + r"\.[a-z]+$", name)
                    self.assertEqual([alias for alias in node.names if alias.name == "*" or alias.asname], [], name)
                    drawn[name[:-3]].append(node.module.split(".")[1])
        while drawn:
            free = [name for name in drawn if not [other for other in drawn[name] if other in drawn]]
            self.assertNotEqual(free, [], "files that draw from one another: " + " ".join(sorted(drawn)))
            for name in free:
                drawn.pop(name)

    def test_a_name_is_drawn_from_the_file_that_defines_it(self):
        tops = {}
        for name, tree in self.trees:
            tops[PACKAGE + "." + name[:-3]] = [
                node.targets[0].id if isinstance(node, ast.Assign) else node.name
                for node in tree.body if isinstance(node, (ast.Assign, ast.FunctionDef, ast.ClassDef))]
        for names in tops.values():
            self.assertEqual(len(names), len(set(names)))
        for name, node in self.nodes(ast.ImportFrom):
            for alias in node.names:
                self.assertIn(alias.name, tops[node.module], name)


if __name__ == "__main__":
    unittest.main()
