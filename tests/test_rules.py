"""The rules of the code that can be seen in the files of the package (../shared/LANGUAGE.md)."""

import ast
import builtins
import unittest
from pathlib import Path

import barscribe

PACKAGE = Path(barscribe.__file__).parent
FILES = sorted(PACKAGE.rglob("*.py"))

BUILTINS = """
len range enumerate zip min max sum abs sorted reversed int str bool bytes list tuple dict set frozenset isinstance ord repr
any all divmod pow getattr hasattr setattr map iter next type super Exception ValueError TypeError KeyError IndexError
LookupError ZeroDivisionError ArithmeticError OverflowError RuntimeError NotImplementedError AttributeError StopIteration
NotImplemented property staticmethod classmethod
""".split()

METHODS = """
append clear copy count endswith extend find get index insert isalnum isalpha isdigit islower isspace isupper items join
keys ljust lower lstrip partition pop remove replace reverse rfind rjust rpartition rsplit rstrip setdefault split
splitlines startswith strip update upper values zfill bit_length title capitalize swapcase casefold center expandtabs
removeprefix removesuffix rindex isascii isdecimal isnumeric istitle isidentifier isprintable add discard
""".split()

SPECIAL = """
init eq repr str len enter exit call iter lt le gt ge ne add sub mul floordiv mod pow and or xor lshift rshift radd rsub
rmul rfloordiv rmod rand ror rxor rlshift rrshift neg pos invert abs bool contains getitem setitem
""".split()

LIBRARY = {"heapq", "math", "itertools", "collections"}

NO_NAMES = """
register mro elements open input law version_info with_traceback add_note attrgetter breakpoint builtins compile copyright
credits delattr dir eval exec exit gc globals help id importlib license locals methodcaller os quit vars sys
""".split()

NO_WORDS = """
typing typing_extensions enum Enum IntEnum StrEnum Flag IntFlag Generic Protocol ABC ABCMeta namedtuple NamedTuple TypedDict
TYPE_CHECKING abstractmethod dataclass overload contextmanager
""".split()

NO_NODES = (
    ast.AsyncFunctionDef, ast.AsyncFor, ast.AsyncWith, ast.Await, ast.Global, ast.GeneratorExp, ast.Set, ast.Div, ast.MatMult,
    ast.Import, ast.AnnAssign, ast.TypeIgnore,
)

SHOWN = {name for thing in (str, int, list, dict, set, tuple, bytes) for name in dir(thing) if not name.startswith("_")}


def docstrings(tree):
    """The nodes of all docstrings."""
    owners = [item for item in ast.walk(tree) if isinstance(item, (ast.Module, ast.ClassDef, ast.FunctionDef))]
    firsts = [item.body[0] for item in owners if item.body]
    return {id(item.value) for item in firsts if isinstance(item, ast.Expr) and isinstance(item.value, ast.Constant)}


def bound_names(function):
    """The parameters and all names that a function assigns."""
    names = [arg.arg for arg in ast.walk(function.args) if isinstance(arg, ast.arg)]
    return names + [item.id for item in ast.walk(function) if isinstance(item, ast.Name) and isinstance(item.ctx, ast.Store)]


def starred_indexes(tree):
    """The rows of all indexes that have a star somewhere in their brackets."""
    indexes = [item for item in ast.walk(tree) if isinstance(item, ast.Subscript)]
    return [item.lineno for item in indexes if any(isinstance(part, ast.Starred) for part in ast.walk(item.slice))]


class RulesTest(unittest.TestCase):
    def each(self, *kinds):
        for path in FILES:
            tree = ast.parse(path.read_text())
            for item in ast.walk(tree):
                if isinstance(item, kinds):
                    yield f"{path.name}:{getattr(item, 'lineno', 0)}", item

    def test_the_folder_holds_plain_files(self):
        self.assertGreater(len(FILES), 5)
        for path in PACKAGE.rglob("*"):
            if "__pycache__" not in path.parts:
                self.assertTrue(path.suffix == ".py" and path.name == path.name.lower(), path)

    def test_sizes_and_characters(self):
        for path in FILES:
            lines = path.read_text().split("\n")
            self.assertLessEqual(len(lines), 400, path)
            for number, line in enumerate(lines, 1):
                self.assertTrue(len(line) <= 120 and all(" " <= sign <= "~" for sign in line), (path, number))
        for where, function in self.each(ast.FunctionDef):
            self.assertLessEqual(function.end_lineno - function.lineno + 1, 40, where)

    def plain_value(self, value, functions):
        """A value at module level is a literal, or a dict from literals to literals and functions that stand above it."""
        if isinstance(value, ast.Dict):
            for part in value.keys + [item for item in value.values if getattr(item, "id", None) not in functions]:
                self.assertNotIsInstance(ast.literal_eval(part), (list, dict))
        else:
            ast.literal_eval(value)

    def test_module_level(self):
        for path in FILES:
            tree = ast.parse(path.read_text())
            bound, functions = [], []
            for item in tree.body:
                if isinstance(item, ast.FunctionDef):
                    functions.append(item.name)
                if isinstance(item, ast.Assign):
                    self.plain_value(item.value, functions)
                    self.assertEqual([type(target) for target in item.targets], [ast.Name], path)
                    bound.append(item.targets[0].id)
                elif isinstance(item, (ast.FunctionDef, ast.ClassDef)):
                    bound.append(item.name)
                elif isinstance(item, ast.ImportFrom):
                    bound.extend(name.name for name in item.names)
                    self.assertTrue(item.module.split(".")[0] in LIBRARY | {"barscribe"} and item.level == 0, path)
                    self.assertTrue(all(name.asname is None and name.name != "*" for name in item.names), path)
                else:
                    self.assertIn(id(item.value), docstrings(tree), path)
            self.assertEqual(len(bound), len(set(bound)), path)
            self.assertFalse(set(bound) & set(dir(builtins)), path)

    def test_imports_name_the_file_that_defines(self):
        for where, item in self.each(ast.ImportFrom):
            if item.module.startswith("barscribe."):
                tree = ast.parse((PACKAGE / (item.module.partition(".")[2] + ".py")).read_text())
                own = {part.name for part in tree.body if isinstance(part, (ast.FunctionDef, ast.ClassDef))}
                own |= {part.targets[0].id for part in tree.body if isinstance(part, ast.Assign)}
                self.assertTrue({name.name for name in item.names} <= own, where)

    def test_no_forbidden_statements_and_expressions(self):
        for where, item in self.each(*NO_NODES):
            self.fail(f"{where}: {type(item).__name__}")
        for where, item in self.each(ast.BinOp):
            if isinstance(item.op, ast.Pow):
                self.assertIsInstance(item.right, ast.Constant, where)
        for where, item in self.each(ast.FunctionDef, ast.ClassDef):
            allowed = {"property", "staticmethod", "classmethod"}
            self.assertTrue(all(getattr(mark, "id", None) in allowed for mark in item.decorator_list), where)

    def test_stars_and_errors(self):
        plain = (ast.Name, ast.Attribute)
        for where, item in self.each(ast.Call):
            for part in item.args:
                self.assertTrue(not isinstance(part, ast.Starred) or isinstance(part.value, plain), where)
            if isinstance(item.func, ast.Name) and item.func.id in ("sorted", "min", "max", "sum", "any", "all"):
                self.assertTrue({part.arg for part in item.keywords} <= {"default", "key"}, where)
            else:
                self.assertTrue(all(part.arg is not None for part in item.keywords), where)
        for where, item in self.each(ast.List, ast.Tuple):
            for part in item.elts:
                self.assertTrue(not isinstance(part, ast.Starred) or isinstance(part.value, plain), where)
        for where, item in self.each(ast.ExceptHandler):
            self.assertEqual(getattr(item.type, "id", None), "RhythmError", where)
        for where, item in self.each(ast.Raise):
            self.assertTrue(item.exc is None or isinstance(item.exc, ast.Call) and item.cause is None, where)
        for where, item in self.each(ast.Compare):
            for sign, part in zip(item.ops, item.comparators):
                if isinstance(sign, (ast.Is, ast.IsNot)):
                    self.assertTrue(isinstance(part, ast.Constant) and part.value in (None, True, False), where)

    def test_no_star_in_an_index(self):
        for path in FILES:
            self.assertEqual(starred_indexes(ast.parse(path.read_text())), [], path)

    def test_a_star_in_an_index_is_seen(self):
        for text in ("d[(*xs, 1)] = 2", "d[*xs, 1]", "d[len([*xs])]", "d[max(*xs)]", "d[0][1:f((*xs, 1))]", "del d[(1, *xs)]"):
            self.assertEqual(starred_indexes(ast.parse(text)), [1], text)
        for text in ("both = (*xs, 1)\nd[both] = 2", "[*xs, 1][0]", "f(*xs)[1]", "d[xs + (1,)]", "d[1] = (*xs, 2)"):
            self.assertEqual(starred_indexes(ast.parse(text)), [], text)

    def test_what_stands_in_a_finally(self):
        for where, item in self.each(ast.Try):
            for part in [inner for row in item.finalbody for inner in ast.walk(row)]:
                allowed = (
                    ast.If, ast.Compare, ast.Assign, ast.Name, ast.Attribute, ast.Load, ast.Store, ast.IsNot, ast.Is, ast.Constant,
                )
                self.assertIsInstance(part, allowed, where)

    def test_loops_do_not_change_what_they_go_over(self):
        for where, item in self.each(ast.For):
            over = {part.id for part in ast.walk(item.iter) if isinstance(part, ast.Name)}
            called = getattr(item.iter, "func", None)
            if getattr(called, "id", None) in ("list", "sorted", "range"):
                continue
            for part in [inner for row in item.body for inner in ast.walk(row)]:
                if isinstance(part, ast.Subscript) and isinstance(part.ctx, (ast.Store, ast.Del)):
                    self.assertNotIn(getattr(part.value, "id", None), over, where)
                if isinstance(part, ast.Call) and getattr(part.func, "attr", None) in ("append", "extend", "pop", "clear", "setdefault"):
                    self.assertNotIn(getattr(part.func.value, "id", None), over, where)

    def test_returns_of_len(self):
        for where, item in self.each(ast.FunctionDef):
            if item.name == "__len__":
                last = item.body[-1]
                self.assertEqual((type(last), getattr(last.value, "func", ast.Name("")).id), (ast.Return, "len"), where)

    def test_strings(self):
        for path in FILES:
            tree = ast.parse(path.read_text())
            docs = docstrings(tree)
            for item in ast.walk(tree):
                if isinstance(item, ast.Constant):
                    self.assertNotIsInstance(item.value, (float, complex), path)
                    if isinstance(item.value, str) and id(item) not in docs:
                        words = item.value.replace(".", " ").split()
                        self.assertFalse("%" in item.value or set(words) & set(NO_WORDS + ["type"]), (path, item.value))

    def test_builtins_and_methods(self):
        for where, item in self.each(ast.Name):
            if item.id in dir(builtins):
                self.assertTrue(isinstance(item.ctx, ast.Load) and item.id in BUILTINS, f"{where}: {item.id}")
            self.assertNotIn(item.id, NO_NAMES + NO_WORDS, where)
        for where, item in self.each(ast.Attribute):
            if item.attr in SHOWN:
                self.assertIn(item.attr, METHODS, where)
            self.assertNotIn(item.attr, NO_NAMES[:9], where)

    def test_names_of_functions_and_variables(self):
        for path in FILES:
            tree = ast.parse(path.read_text())
            taken = {item.name for item in tree.body if isinstance(item, ast.ClassDef)}
            taken |= {name.name for item in tree.body if isinstance(item, ast.ImportFrom) for name in item.names}
            for item in ast.walk(tree):
                if isinstance(item, ast.FunctionDef):
                    names = bound_names(item)
                    self.assertFalse(set(names) & (taken | set(dir(builtins)) | set(NO_NAMES)), (path, item.name))
                    if item.name.startswith("__"):
                        self.assertIn(item.name.strip("_"), SPECIAL, path)

    def test_no_name_is_a_method_and_an_attribute(self):
        methods = {
            part.name for _, item in self.each(ast.ClassDef) for part in item.body if isinstance(part, ast.FunctionDef)
        }
        attributes = {item.attr for _, item in self.each(ast.Attribute) if isinstance(item.ctx, ast.Store)}
        self.assertFalse(methods & attributes)


if __name__ == "__main__":
    unittest.main()
