"""Looks through the files of the package for what the subset of Python leaves out."""

import ast
import builtins
import os
import re
import unittest

PACKAGE = os.path.join(os.path.dirname(os.path.dirname(os.path.abspath(__file__))), "queueloops")

STATEMENTS = (ast.Assign, ast.AugAssign, ast.If, ast.While, ast.For, ast.Return, ast.Break, ast.Continue, ast.Pass,
              ast.Raise, ast.Assert, ast.Delete, ast.Expr, ast.Try, ast.FunctionDef, ast.ClassDef, ast.ImportFrom)
BUILTINS = """len range enumerate zip min max sum abs sorted reversed int str bool list tuple dict set isinstance ord
repr any all divmod ValueError""".split()
METHODS = """append clear copy count endswith extend find get index insert isalnum isalpha isdigit islower isspace
isupper items join keys ljust lower lstrip partition pop remove replace reverse rfind rjust rpartition rsplit rstrip
setdefault split splitlines startswith strip update upper values zfill bit_length isascii isdecimal""".split()
WORDS_LEFT_OUT = """type typing typing_extensions enum Enum IntEnum StrEnum Flag IntFlag Generic Protocol ABC ABCMeta
namedtuple NamedTuple TypedDict TYPE_CHECKING abstractmethod""".split()
NAMES_LEFT_OUT = """register mro elements open input law version_info with_traceback add_note attrgetter breakpoint
compile copyright credits delattr dir eval exec exit gc getattr globals hasattr help id importlib license locals
methodcaller os quit setattr super vars sys""".split()
SPECIAL = ["__init__", "__len__", "__eq__", "__contains__"]


def files():
    return sorted(name for name in os.listdir(PACKAGE) if name != "__pycache__")


def text_of(name):
    with open(os.path.join(PACKAGE, name), encoding="utf-8", newline="") as file:
        return file.read()


def tree_of(name):
    return ast.parse(text_of(name))


def nodes(kinds):
    for name in files():
        for node in ast.walk(tree_of(name)):
            if isinstance(node, kinds):
                yield name, node


def strings_of(tree):
    """The strings of a file that are no docstrings."""
    docs = set()
    for node in ast.walk(tree):
        if isinstance(node, (ast.Module, ast.ClassDef, ast.FunctionDef)) and ast.get_docstring(node) is not None:
            docs.add(id(node.body[0].value))
    return [node.value for node in ast.walk(tree)
            if isinstance(node, ast.Constant) and isinstance(node.value, str) and id(node) not in docs]


def bound_names(tree):
    """All names that a file gives to something."""
    for node in ast.walk(tree):
        if isinstance(node, (ast.FunctionDef, ast.ClassDef)):
            yield node.name
        elif isinstance(node, ast.arg):
            yield node.arg
        elif isinstance(node, ast.Name) and isinstance(node.ctx, ast.Store):
            yield node.id
        elif isinstance(node, ast.ImportFrom):
            yield from (each.name for each in node.names)
        elif isinstance(node, ast.ExceptHandler) and node.name:
            yield node.name


class LanguageTest(unittest.TestCase):
    def test_files(self):
        self.assertIn("__init__.py", files())
        for name in files():
            self.assertRegex(name, r"^(__init__|[a-z][a-z0-9_]*)\.py$")

    def test_sizes_and_characters(self):
        for name in files():
            text = text_of(name)
            self.assertLessEqual(len(text.split("\n")), 399, name)
            for line in text.split("\n"):
                self.assertLessEqual(len(line), 120, name)
                self.assertRegex(line, r"^[ -~]*$", name)
            self.assertNotIn("_wall", text)
        for name, node in nodes(ast.FunctionDef):
            self.assertLessEqual(node.end_lineno - node.lineno + 1, 40, node.name)

    def test_module_level(self):
        for name in files():
            for at, node in enumerate(tree_of(name).body):
                if isinstance(node, ast.Expr):
                    self.assertEqual(at, 0, name)
                elif isinstance(node, ast.Assign):
                    self.assertEqual([len(node.targets), type(node.targets[0])], [1, ast.Name])
                    self.check_plain(node, [each.name for each in tree_of(name).body[:at]
                                            if isinstance(each, ast.FunctionDef)])
                else:
                    self.assertIsInstance(node, (ast.ImportFrom, ast.FunctionDef, ast.ClassDef), name)

    def check_plain(self, node, functions):
        """A plain value, or a table of functions that are defined above it."""
        if isinstance(node.value, ast.Dict) and isinstance(node.value.values[0], ast.Name):
            for each in node.value.values:
                self.assertIn(each.id, functions)
        else:
            self.assertIsInstance(ast.literal_eval(node.value), (int, str, tuple, list, dict))

    def test_imports_name_the_file_that_defines(self):
        for name, node in nodes((ast.Import, ast.ImportFrom)):
            self.assertIsInstance(node, ast.ImportFrom, name)
            self.assertEqual(node.level, 0)
            self.assertRegex(node.module, r"^queueloops\.[a-z]+$")
            body = tree_of(node.module.split(".")[1] + ".py").body
            defined = [each.name for each in body if isinstance(each, (ast.FunctionDef, ast.ClassDef))]
            defined += [each.targets[0].id for each in body if isinstance(each, ast.Assign)]
            for each in node.names:
                self.assertIn(each.name, defined)
                self.assertIsNone(each.asname)

    def test_imports_do_not_go_round(self):
        ahead = {name: {node.module.split(".")[1] + ".py" for node in ast.walk(tree_of(name))
                        if isinstance(node, ast.ImportFrom)} for name in files()}
        while ahead:
            free = [name for name in ahead if not ahead[name] & set(ahead)]
            self.assertTrue(free, ahead)
            for name in free:
                del ahead[name]

    def test_imports_are_used(self):
        for name in files():
            tree = tree_of(name)
            read = [node.id for node in ast.walk(tree) if isinstance(node, ast.Name)]
            for node in ast.walk(tree):
                if isinstance(node, ast.ImportFrom):
                    for each in node.names:
                        self.assertIn(each.name, read, name)

    def test_statements(self):
        for name, node in nodes(ast.stmt):
            self.assertIsInstance(node, STATEMENTS, "%s line %d" % (name, node.lineno))
        for name, node in nodes((ast.FunctionDef, ast.ClassDef)):
            self.assertEqual(node.decorator_list, [], node.name)

    def test_no_bare_or_wide_handlers(self):
        for name, node in nodes(ast.ExceptHandler):
            self.assertIsNotNone(node.type, name)

    def test_expressions(self):
        left_out = (ast.Div, ast.MatMult, ast.GeneratorExp, ast.Yield, ast.YieldFrom, ast.Await, ast.NamedExpr)
        for name, node in nodes(left_out):
            self.fail("%s: %s" % (name, ast.dump(node)))
        for name, node in nodes(ast.Constant):
            self.assertIn(type(node.value), (int, str, bool, bytes, type(None)), name)

    def test_sets_stand_in_sorted_len_or_behind_in(self):
        for name in files():
            allowed = set()
            for node in ast.walk(tree_of(name)):
                if isinstance(node, ast.Call) and isinstance(node.func, ast.Name) and node.func.id in ("sorted", "len"):
                    allowed.update((each.lineno, each.col_offset) for each in node.args)
                elif isinstance(node, ast.Compare) and isinstance(node.ops[0], (ast.In, ast.NotIn)):
                    allowed.add((node.comparators[0].lineno, node.comparators[0].col_offset))
            for node in ast.walk(tree_of(name)):
                is_set = isinstance(node, (ast.Set, ast.SetComp)) or (
                    isinstance(node, ast.Call) and isinstance(node.func, ast.Name) and node.func.id == "set")
                if is_set:
                    self.assertIn((node.lineno, node.col_offset), allowed, name)

    def test_names_that_are_read(self):
        for name in files():
            tree = tree_of(name)
            own = set(bound_names(tree))
            for node in ast.walk(tree):
                if isinstance(node, ast.Name) and isinstance(node.ctx, ast.Load):
                    self.assertTrue(node.id in own or node.id in BUILTINS, "%s reads %s" % (name, node.id))

    def test_names_that_are_given(self):
        for name in files():
            tree = tree_of(name)
            for each in bound_names(tree):
                # "_" is no builtin of its own, but doctest leaves one there.
                if each not in SPECIAL + ["_"]:
                    self.assertFalse(hasattr(builtins, each), "%s gives %s" % (name, each))
                    self.assertNotIn(each, NAMES_LEFT_OUT)
                    self.assertRegex(each, r"^_?[A-Za-z][A-Za-z0-9_]*$")

    def test_underscore_is_not_read(self):
        for name, node in nodes(ast.Name):
            if isinstance(node.ctx, ast.Load):
                self.assertNotEqual(node.id, "_", name)

    def test_no_variable_has_the_name_of_a_class_or_an_import(self):
        for name in files():
            tree = tree_of(name)
            taken = [each.name for each in tree.body if isinstance(each, ast.ClassDef)]
            for node in ast.walk(tree):
                if isinstance(node, ast.ImportFrom):
                    taken += [each.name for each in node.names]
            for node in ast.walk(tree):
                if isinstance(node, ast.Name) and isinstance(node.ctx, ast.Store):
                    self.assertNotIn(node.id, taken, name)
                elif isinstance(node, ast.arg):
                    self.assertNotIn(node.arg, taken, name)

    def test_names_are_bound_once_at_module_level(self):
        for name in files():
            names = []
            for node in tree_of(name).body:
                if isinstance(node, (ast.FunctionDef, ast.ClassDef)):
                    names.append(node.name)
                elif isinstance(node, ast.ImportFrom):
                    names += [each.name for each in node.names]
                elif isinstance(node, ast.Assign):
                    names.append(node.targets[0].id)
            self.assertEqual(len(set(names)), len(names), name)

    def test_methods_that_are_called(self):
        own = [node.name for name, node in nodes(ast.FunctionDef)]
        for name, node in nodes(ast.Call):
            if isinstance(node.func, ast.Attribute):
                self.assertTrue(node.func.attr in METHODS or node.func.attr in own, node.func.attr)

    def test_attributes_and_methods_have_names_of_their_own(self):
        left_out = """items keys values pop update append clear extend insert remove reverse setdefault sort args encode
                      decode hex fromhex format""".split()
        for name, node in nodes(ast.ClassDef):
            methods = [each.name for each in node.body if isinstance(each, ast.FunctionDef)]
            self.assertEqual(len(set(methods)), len(methods), node.name)
            for each in ast.walk(node):
                if isinstance(each, ast.Attribute) and isinstance(each.ctx, ast.Store):
                    self.assertNotIn(each.attr, methods + left_out, node.name)

    def test_keywords_are_passed_to_own_functions_only(self):
        """But for those of sorted, min, max, enumerate and zip that the subset lets."""
        own = [node.name for _, node in nodes((ast.FunctionDef, ast.ClassDef))]
        for name, node in nodes(ast.Call):
            called = node.func.id if isinstance(node.func, ast.Name) else None
            if called not in own and node.keywords:
                self.assertIn(called, ("sorted", "min", "max", "enumerate", "zip"), name)

    def test_handlers_name_own_errors(self):
        own = [node.name for file, node in nodes(ast.ClassDef) if file == "errors.py"]
        for name, node in nodes(ast.ExceptHandler):
            self.assertIn(node.type.id, own, name)
            self.assertIsNone(node.name, name)

    def test_words_that_are_left_out(self):
        for name in files():
            tree = tree_of(name)
            words = [node.id for node in ast.walk(tree) if isinstance(node, ast.Name)]
            words += [node.attr for node in ast.walk(tree) if isinstance(node, ast.Attribute)]
            words += strings_of(tree)
            for word in words:
                for left_out in WORDS_LEFT_OUT:
                    self.assertIsNone(re.search(r"\b%s\b" % left_out, word), name)
            for string in strings_of(tree):
                self.assertNotIn("%", string)

    def test_defaults_and_stars(self):
        for name, node in nodes(ast.arguments):
            self.assertEqual([node.defaults, node.kw_defaults, node.vararg, node.kwarg], [[], [], None, None], name)

    def test_errors_are_created_where_they_are_raised(self):
        for name, node in nodes(ast.Raise):
            self.assertIsInstance(node.exc, ast.Call, name)
            self.assertIsInstance(node.exc.func, ast.Name, name)


if __name__ == "__main__":
    unittest.main()
