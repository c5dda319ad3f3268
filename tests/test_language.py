"""The rules of the language that can be read off the files of the package."""

import ast
import builtins
import pathlib
import re
import unittest

PACKAGE = pathlib.Path(__file__).resolve().parent.parent / "takeleave"

BUILTINS = set(
    "len range enumerate zip min max sum abs sorted reversed int str bool bytes list tuple dict set frozenset "
    "isinstance ord repr any all divmod iter next super property Exception ValueError TypeError KeyError IndexError "
    "LookupError ZeroDivisionError ArithmeticError OverflowError RuntimeError NotImplementedError AttributeError "
    "StopIteration NotImplemented".split())
METHODS = set(
    "append clear copy count endswith extend find get index insert isalnum isalpha isdigit islower isspace isupper "
    "items join keys ljust lower lstrip partition pop remove replace reverse rfind rjust rpartition rsplit rstrip "
    "setdefault split splitlines startswith strip update upper values zfill bit_length __init__".split())
BARRED_WORDS = set(
    "type typing typing_extensions enum Enum IntEnum StrEnum Flag IntFlag Generic Protocol ABC ABCMeta namedtuple "
    "NamedTuple TypedDict TYPE_CHECKING abstractmethod".split())
BARRED_NAMES = set(
    "register mro elements open input version_info with_traceback add_note attrgetter breakpoint builtins compile "
    "copyright credits delattr dir eval exec exit gc getattr globals hasattr help id importlib license locals "
    "methodcaller os quit setattr type vars sys".split())
STATEMENTS = (ast.Global, ast.AsyncFunctionDef, ast.AsyncFor, ast.AsyncWith, ast.Import, ast.ImportFrom)


def sources():
    return {path.stem: path.read_text(encoding="utf-8") for path in sorted(PACKAGE.glob("*.py"))}


def trees():
    return {name: ast.parse(text) for name, text in sources().items()}


def functions(tree):
    return [node for node in ast.walk(tree) if isinstance(node, ast.FunctionDef)]


def attributes():
    """The attributes that are assigned anywhere."""
    return {node.attr for tree in trees().values() for node in ast.walk(tree)
            if isinstance(node, ast.Attribute) and isinstance(node.ctx, ast.Store)}


def methods():
    """The methods of all classes."""
    return {method.name for tree in trees().values() for node in tree.body if isinstance(node, ast.ClassDef)
            for method in functions(node)}


def bound_in(function):
    """The parameters and local variables of a function."""
    arguments = function.args
    names = [each.arg for each in arguments.posonlyargs + arguments.args + arguments.kwonlyargs]
    names += [node.name for node in ast.walk(function) if isinstance(node, ast.ExceptHandler) and node.name]
    return names + [node.id for node in ast.walk(function) if isinstance(node, ast.Name) and isinstance(node.ctx, ast.Store)]


def bound_at_top(tree):
    """The names that are bound at module level, each as often as it is."""
    names = []
    for node in tree.body:
        if isinstance(node, (ast.FunctionDef, ast.ClassDef)):
            names.append(node.name)
        elif isinstance(node, ast.Assign):
            names.extend(target.id for target in node.targets)
        elif isinstance(node, ast.ImportFrom):
            names.extend(alias.asname or alias.name for alias in node.names)
    return names


def is_within_itself(name, leads):
    """Whether a name is come to again from itself, where leads tells what each one leads to."""
    seen, waiting = set(), list(leads.get(name, ()))
    while waiting:
        at = waiting.pop()
        if at == name:
            return True
        if at not in seen:
            seen.add(at)
            waiting.extend(leads.get(at, ()))
    return False


class Files(unittest.TestCase):

    def test_plain_files_only(self):
        for path in PACKAGE.iterdir():
            if path.name != "__pycache__":
                self.assertRegex(path.name, r"^(__init__|[a-z][a-z0-9_]*)\.py$")
                self.assertNotIn(path.stem, set(dir(builtins)) - {"__init__"}, path.name)

    def test_sizes_and_signs(self):
        for name, text in sources().items():
            self.assertRegex(text, r"\A[\n -~]*\Z", name)
            self.assertLessEqual(len(text.splitlines()), 400, name)
            for line in text.splitlines():
                self.assertLessEqual(len(line), 120, (name, line))
        for name, tree in trees().items():
            for function in functions(tree):
                self.assertLessEqual(function.end_lineno - function.lineno + 1, 40, (name, function.name))

    def test_barred_words(self):
        for name, text in sources().items():
            self.assertEqual(BARRED_WORDS & set(re.findall(r"\w+", text)), set(), name)
            self.assertNotRegex(text, "dataclass|overload|contextmanager", name)


class Imports(unittest.TestCase):

    def test_each_names_the_file_that_defines_the_name(self):
        tops = {name: tree for name, tree in trees().items()}
        for name, tree in tops.items():
            for node in ast.walk(tree):
                self.assertNotIsInstance(node, ast.Import, name)
                if isinstance(node, ast.ImportFrom):
                    self.assertIn(node, tree.body, name)
                    self.assertEqual((node.level, node.module.split(".")[0]), (0, "takeleave"), name)
                    other = tops[node.module.split(".")[1]]
                    defined = [each for each in other.body if not isinstance(each, ast.ImportFrom)]
                    for alias in node.names:
                        self.assertIn(alias.name, bound_at_top(ast.Module(defined, [])), (name, alias.name))

    def test_no_two_files_import_from_each_other(self):
        leads = {name: [node.module.split(".")[1] for node in tree.body if isinstance(node, ast.ImportFrom)]
                 for name, tree in trees().items()}
        for name in leads:
            self.assertFalse(is_within_itself(name, leads), name)

    def test_each_import_is_used(self):
        for name, tree in trees().items():
            used = {node.id for node in ast.walk(tree) if isinstance(node, ast.Name)}
            for node in tree.body:
                if isinstance(node, ast.ImportFrom):
                    for alias in node.names:
                        self.assertIn(alias.name, used, name)


class Code(unittest.TestCase):

    def test_module_level(self):
        allowed = (ast.FunctionDef, ast.ClassDef, ast.Assign, ast.ImportFrom)
        for name, tree in trees().items():
            self.assertIsNotNone(ast.get_docstring(tree), name)
            for node in tree.body[1:]:
                self.assertIsInstance(node, allowed, name)
            names = bound_at_top(tree)
            self.assertEqual(len(names), len(set(names)), name)

    def test_no_statement_that_is_barred(self):
        for name, tree in trees().items():
            for function in functions(tree):
                for node in ast.walk(function):
                    self.assertNotIsInstance(node, STATEMENTS, (name, function.name))
                    self.assertNotIsInstance(node, (ast.Div, ast.JoinedStr), (name, function.name))

    def test_names(self):
        for name, tree in trees().items():
            taken = set(dir(builtins)) | BARRED_NAMES
            for node in tree.body:
                if isinstance(node, ast.ImportFrom):
                    taken |= {alias.name for alias in node.names}
                elif isinstance(node, ast.ClassDef):
                    taken.add(node.name)
            for function in functions(tree):
                for bound in bound_in(function):
                    self.assertRegex(bound, r"^[A-Za-z][A-Za-z0-9_]*$", (name, function.name))
                    self.assertNotIn(bound, taken, (name, function.name))
                self.assertNotIn(function.name, BARRED_NAMES, name)

    def test_builtins_and_methods(self):
        own = attributes() | methods()
        for name, tree in trees().items():
            local = set(bound_at_top(tree))
            for function in functions(tree):
                local.update(bound_in(function))
            for node in ast.walk(tree):
                if isinstance(node, ast.Name) and node.id not in local:
                    self.assertIn(node.id, BUILTINS, (name, node.lineno))
                if isinstance(node, ast.Attribute):
                    self.assertIn(node.attr, METHODS | own, (name, node.lineno))

    def test_attributes_and_methods_have_names_of_their_own(self):
        self.assertEqual(attributes() & methods(), set())
        for builtin in (str, int, list, dict, set, bytes, tuple):
            self.assertEqual((attributes() | methods()) & set(dir(builtin)) - {"__init__"}, set())

    def test_is_stands_with_none_and_truths_only(self):
        for name, tree in trees().items():
            for node in ast.walk(tree):
                if isinstance(node, ast.Compare):
                    for sign, right in zip(node.ops, node.comparators):
                        if isinstance(sign, (ast.Is, ast.IsNot)):
                            self.assertIsInstance(right, ast.Constant, (name, node.lineno))

    def test_strings_and_numbers(self):
        for name, tree in trees().items():
            for node in ast.walk(tree):
                if isinstance(node, ast.Constant) and isinstance(node.value, str):
                    self.assertNotIn("%", node.value, (name, node.lineno))
                if isinstance(node, ast.Constant):
                    self.assertNotIsInstance(node.value, (float, complex), (name, node.lineno))

    def test_stars_in_calls(self):
        for name, tree in trees().items():
            for node in ast.walk(tree):
                if isinstance(node, ast.Call):
                    for part in node.args:
                        if isinstance(part, ast.Starred):
                            self.assertIsInstance(part.value, (ast.Name, ast.Attribute), (name, node.lineno))
                    self.assertNotIn(None, [word.arg for word in node.keywords], (name, node.lineno))

    def test_what_is_iterated_at_once_is_not_kept(self):
        for name, tree in trees().items():
            for node in ast.walk(tree):
                if isinstance(node, (ast.Assign, ast.Return)) and isinstance(node.value, ast.Call):
                    called = node.value.func
                    at_once = getattr(called, "id", None) or getattr(called, "attr", None)
                    self.assertNotIn(at_once, ("zip", "enumerate", "reversed", "range", "items", "keys", "values"),
                                     (name, node.lineno))

    def test_what_a_loop_goes_through_is_not_changed_in_it(self):
        changing = ("append", "clear", "extend", "insert", "pop", "remove", "reverse", "setdefault", "update", "sort")
        for name, tree in trees().items():
            for loop in [node for node in ast.walk(tree) if isinstance(node, ast.For)]:
                gone_through = {ast.unparse(node) for node in ast.walk(loop.iter)
                                if isinstance(node, (ast.Name, ast.Attribute))}
                for node in ast.walk(ast.Module(loop.body, [])):
                    if isinstance(node, ast.Attribute) and node.attr in changing:
                        self.assertNotIn(ast.unparse(node.value), gone_through, (name, node.lineno))
                    if isinstance(node, ast.Subscript) and not isinstance(node.ctx, ast.Load):
                        self.assertNotIn(ast.unparse(node.value), gone_through, (name, node.lineno))

    def test_no_function_comes_to_itself(self):
        leads = {}
        for tree in trees().values():
            for function in functions(tree):
                called = {node.id for node in ast.walk(function) if isinstance(node, ast.Name)}
                leads.setdefault(function.name, set()).update(called)
        for function in leads:
            if function != "__init__":
                self.assertFalse(is_within_itself(function, leads), function)
