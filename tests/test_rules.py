"""The rules of the code that can be seen in the files of the package (../shared/LANGUAGE.md)."""

import ast
import builtins
import unittest
from pathlib import Path

import barscribe

PACKAGE = Path(barscribe.__file__).parent
FILES = sorted(PACKAGE.rglob("*.py"))

BUILTINS = """
len range enumerate zip min max sum abs sorted reversed int str bool bytes list tuple dict set frozenset isinstance ord repr
any all divmod pow getattr hasattr setattr map iter next type super Exception ValueError TypeError KeyError IndexError
LookupError ZeroDivisionError ArithmeticError OverflowError RuntimeError NotImplementedError AttributeError StopIteration
NotImplemented property staticmethod classmethod
""".split()

METHODS = """
append clear copy count endswith extend find get index insert isalnum isalpha isdigit islower isspace isupper items join
keys ljust lower lstrip partition pop remove replace reverse rfind rjust rpartition rsplit rstrip setdefault split
splitlines startswith strip update upper values zfill bit_length title capitalize swapcase casefold center expandtabs
removeprefix removesuffix rindex isascii isdecimal isnumeric istitle isidentifier isprintable add discard
""".split()

SPECIAL = """
init eq repr str len enter exit call iter lt le gt ge ne add sub mul floordiv mod pow and or xor lshift rshift radd rsub
rmul rfloordiv rmod rand ror rxor rlshift rrshift neg pos invert abs bool contains getitem setitem
""".split()

LIBRARY = {"heapq", "math", "itertools", "collections"}

NO_NAMES = """
register mro elements open input law version_info with_traceback add_note attrgetter breakpoint builtins compile copyright
credits delattr dir eval exec exit gc globals help id importlib license locals methodcaller os quit vars sys
""".split()

NO_WORDS = """
typing typing_extensions enum Enum IntEnum StrEnum Flag IntFlag Generic Protocol ABC ABCMeta namedtuple NamedTuple TypedDict
TYPE_CHECKING abstractmethod dataclass overload contextmanager
""".split()

NO_NODES = (
    ast.AsyncFunctionDef, ast.AsyncFor, ast.AsyncWith, ast.Await, ast.Global, ast.GeneratorExp, ast.Set, ast.Div, ast.MatMult,
    ast.Import, ast.AnnAssign, ast.TypeIgnore,
)

SHOWN = {name for thing in (str, int, list, dict, set, tuple, bytes) for name in dir(thing) if not name.startswith("_")}


def docstrings(tree):
    """The nodes of all docstrings."""
    owners = [item for item in ast.walk(tree) if isinstance(item, (ast.Module, ast.ClassDef, ast.FunctionDef))]
    firsts = [item.body[0] for item in owners if item.body]
    return {id(item.value) for item in firsts if isinstance(item, ast.Expr) and isinstance(item.value, ast.Constant)}


def bound_names(function):
    """The parameters and all names that a function assigns."""
    names = [arg.arg for arg in ast.walk(function.args) if isinstance(arg, ast.arg)]
    return names + [item.id for item in ast.walk(function) if isinstance(item, ast.Name) and isinstance(item.ctx, ast.Store)]


class RulesTest(unittest.TestCase):
    def each(self, *kinds):
        for path in FILES:
            tree = ast.parse(path.read_text())
            for item in ast.walk(tree):
                if isinstance(item, kinds):
                    yield f"{path.name}:{getattr(item, 'lineno', 0)}", item

    def test_the_folder_holds_plain_files(self):
        self.assertGreater(len(FILES), 5)
        for path in PACKAGE.rglob("*"):
            if "__pycache__" not in path.parts:
                self.assertTrue(path.suffix == ".py" and path.name == path.name.lower(), path)

    def test_sizes_and_characters(self):
        for path in FILES:
            lines = path.read_text().split("\n")
            self.assertLessEqual(len(lines), 400, path)
            for number, line in enumerate(lines, 1):
                self.assertTrue(len(line) <= 120 and all(" " <= sign <= "~" for sign in line), (path, number))
        for where, function in self.each(ast.FunctionDef):
            self.assertLessEqual(function.end_lineno - function.lineno + 1, 40, where)

    def test_module_level(self):
        for path in FILES:
            tree = ast.parse(path.read_text())
            bound = []
            for item in tree.body:
                if isinstance(item, ast.Assign):
                    ast.literal_eval(item.value)
                    self.assertEqual([type(target) for target in item.targets], [ast.Name], path)
                    bound.append(item.targets[0].id)
                elif isinstance(item, (ast.FunctionDef, ast.ClassDef)):
                    bound.append(item.name)
                elif isinstance(item, ast.ImportFrom):
                    bound.extend(name.name for name in item.names)
                    self.assertTrue(item.module.split(".")[0] in LIBRARY | {"barscribe"} and item.level == 0, path)
                    self.assertTrue(all(name.asname is None and name.name != "*" for name in item.names), path)
                else:
                    self.assertIn(id(item.value), docstrings(tree), path)
            self.assertEqual(len(bound), len(set(bound)), path)
            self.assertFalse(set(bound) & set(dir(builtins)), path)

    def test_imports_name_the_file_that_defines(self):
        for where, item in self.each(ast.ImportFrom):
            if item.module.startswith("barscribe."):
                tree = ast.parse((PACKAGE / (item.module.partition(".")[2] + ".py")).read_text())
                own = {part.name for part in tree.body if isinstance(part, (ast.FunctionDef, ast.ClassDef))}
                own |= {part.targets[0].id for part in tree.body if isinstance(part, ast.Assign)}
                self.assertTrue({name.name for name in item.names} <= own, where)

    def test_no_forbidden_statements_and_expressions(self):
        for where, item in self.each(*NO_NODES):
            self.fail(f"{where}: {type(item).__name__}")
        for where, item in self.each(ast.BinOp):
            if isinstance(item.op, ast.Pow):
                self.assertIsInstance(item.right, ast.Constant, where)
        for where, item in self.each(ast.FunctionDef, ast.ClassDef):
            allowed = {"property", "staticmethod", "classmethod"}
            self.assertTrue(all(getattr(mark, "id", None) in allowed for mark in item.decorator_list), where)

    def test_strings(self):
        for path in FILES:
            tree = ast.parse(path.read_text())
            docs = docstrings(tree)
            for item in ast.walk(tree):
                if isinstance(item, ast.Constant):
                    self.assertNotIsInstance(item.value, (float, complex), path)
                    if isinstance(item.value, str) and id(item) not in docs:
                        words = item.value.replace(".", " ").split()
                        self.assertFalse("%" in item.value or set(words) & set(NO_WORDS + ["type"]), (path, item.value))

    def test_builtins_and_methods(self):
        for where, item in self.each(ast.Name):
            if item.id in dir(builtins):
                self.assertTrue(isinstance(item.ctx, ast.Load) and item.id in BUILTINS, f"{where}: {item.id}")
            self.assertNotIn(item.id, NO_NAMES + NO_WORDS, where)
        for where, item in self.each(ast.Attribute):
            if item.attr in SHOWN:
                self.assertIn(item.attr, METHODS, where)
            self.assertNotIn(item.attr, NO_NAMES[:9], where)

    def test_names_of_functions_and_variables(self):
        for path in FILES:
            tree = ast.parse(path.read_text())
            taken = {item.name for item in tree.body if isinstance(item, ast.ClassDef)}
            taken |= {name.name for item in tree.body if isinstance(item, ast.ImportFrom) for name in item.names}
            for item in ast.walk(tree):
                if isinstance(item, ast.FunctionDef):
                    names = bound_names(item)
                    self.assertFalse(set(names) & (taken | set(dir(builtins)) | set(NO_NAMES)), (path, item.name))
                    if item.name.startswith("__"):
                        self.assertIn(item.name.strip("_"), SPECIAL, path)

    def test_no_name_is_a_method_and_an_attribute(self):
        methods = {
            part.name for _, item in self.each(ast.ClassDef) for part in item.body if isinstance(part, ast.FunctionDef)
        }
        attributes = {item.attr for _, item in self.each(ast.Attribute) if isinstance(item.ctx, ast.Store)}
        self.assertFalse(methods & attributes)


if __name__ == "__main__":
    unittest.main()
