"""The rules of the language subset that can be checked by reading the package's code."""

import ast
import builtins
import pathlib
import re
import unittest

ROOT = pathlib.Path(__file__).resolve().parent.parent
PACKAGE = ROOT / "winoften"
LIBRARY = {
    "heapq": {"heappush", "heappop", "heapify", "heapreplace", "heappushpop"},
    "math": {"gcd", "lcm", "isqrt", "comb", "perm", "factorial"},
    "itertools": {"product", "combinations", "permutations", "chain", "accumulate", "pairwise", "islice",
                  "zip_longest"},
    "collections": {"defaultdict"},
}
BUILTINS = set("""len range enumerate zip min max sum abs sorted reversed int str bool list tuple dict set isinstance
    ord repr any all divmod pow map iter next Exception ValueError TypeError KeyError IndexError LookupError
    ZeroDivisionError ArithmeticError OverflowError RuntimeError NotImplementedError AttributeError
    NotImplemented property classmethod staticmethod super""".split())
DOUBLE = set("""__init__ __eq__ __repr__ __str__ __len__ __iter__ __call__ __lt__ __le__ __gt__ __ge__ __ne__ __add__
    __sub__ __mul__ __neg__ __bool__ __contains__""".split())
BARRED_NODES = (ast.Global, ast.AsyncFunctionDef, ast.AsyncFor, ast.AsyncWith, ast.Await, ast.TryStar, ast.Import)
METHODS = set("""append clear copy count endswith extend find get index insert isalnum isalpha isdigit islower isspace
    isupper items join keys ljust lower lstrip partition pop remove replace reverse rfind rjust rpartition rsplit
    rstrip setdefault split splitlines startswith strip update upper values zfill bit_length title capitalize
    swapcase casefold center expandtabs removeprefix removesuffix rindex isascii isdecimal isnumeric istitle
    isidentifier isprintable add discard""".split())
BARRED_WORDS = {"type", "typing", "enum", "Enum", "Generic", "Protocol", "ABC", "namedtuple", "NamedTuple", "TypedDict",
                "register", "mro", "elements", "open", "input", "law", "eval", "exec", "globals", "locals", "vars",
                "dir", "id", "help", "exit", "quit", "compile", "print", "hash", "chr", "frozenset", "bytes", "float"}


def files():
    return sorted(PACKAGE.rglob("*.py"))


def trees():
    return [(path, ast.parse(path.read_text())) for path in files()]


def nodes(kind):
    return [(path, node) for path, tree in trees() for node in ast.walk(tree) if isinstance(node, kind)]


def own_methods():
    return {node.name for _, node in nodes(ast.FunctionDef)}


def bound_names(function):
    """The names that a function binds: parameters and targets."""
    told = [node.arg for node in ast.walk(function) if isinstance(node, ast.arg)]
    stored = [node.id for node in ast.walk(function)
              if isinstance(node, ast.Name) and isinstance(node.ctx, ast.Store)]
    return told + stored


class Files(unittest.TestCase):
    def test_only_plain_python_files(self):
        others = [path for path in PACKAGE.rglob("*") if path.suffix != ".py" and "__pycache__" not in path.parts]
        self.assertEqual(others, [])
        for path in files():
            self.assertRegex(path.stem, r"^(__init__|__main__|[a-z][a-z0-9_]*)$")
            self.assertNotIn(path.stem, dir(builtins))

    def test_sizes_and_characters(self):
        for path in files():
            lines = path.read_text().split("\n")
            self.assertLessEqual(len(lines), 399, path)
            for line in lines:
                self.assertLessEqual(len(line), 120, line)
                self.assertRegex(line, r"^[ -~]*$")
                self.assertEqual(line, line.rstrip())
        for path, function in nodes(ast.FunctionDef):
            self.assertLessEqual(function.end_lineno - function.lineno + 1, 40, (path, function.name))


class Code(unittest.TestCase):
    def test_imports(self):
        wanted = {}
        for path, node in nodes(ast.ImportFrom):
            self.assertEqual(node.level, 0)
            names = {alias.name for alias in node.names}
            self.assertEqual([alias for alias in node.names if alias.asname], [])
            if node.module in LIBRARY:
                self.assertLessEqual(names, LIBRARY[node.module])
                continue
            self.assertRegex(node.module, r"^winoften\.[a-z_]+$")
            source = PACKAGE / (node.module.split(".")[1] + ".py")
            parts = ast.parse(source.read_text()).body
            defined = {part.name for part in parts if isinstance(part, (ast.FunctionDef, ast.ClassDef))}
            defined |= {part.targets[0].id for part in parts if isinstance(part, ast.Assign)}
            self.assertLessEqual(names, defined, path)
            wanted.setdefault(path, set()).add(source)
        self.assertNotIn(PACKAGE / "__init__.py", wanted)
        while wanted:
            free = [path for path in wanted if not wanted[path] & set(wanted)]
            self.assertTrue(free, "files import each other: " + ", ".join(map(str, wanted)))
            for path in free:
                del wanted[path]

    def test_imported_names_are_used_and_not_bound_again(self):
        for path, tree in trees():
            imported = [alias.name for node in tree.body if isinstance(node, ast.ImportFrom) for alias in node.names]
            read = {node.id for node in ast.walk(tree) if isinstance(node, ast.Name)}
            self.assertLessEqual(set(imported), read, path)
            classes = [node.name for node in tree.body if isinstance(node, ast.ClassDef)]
            for node in ast.walk(tree):
                if isinstance(node, (ast.FunctionDef, ast.Lambda)):
                    self.assertEqual(set(bound_names(node)) & {*imported, *classes}, set(), path)

    def test_module_level(self):
        for path, tree in trees():
            for node in tree.body:
                plain = isinstance(node, (ast.ImportFrom, ast.FunctionDef, ast.ClassDef))
                docstring = isinstance(node, ast.Expr) and isinstance(node.value, ast.Constant)
                constant = isinstance(node, ast.Assign) and not list(
                    part for part in ast.walk(node) if isinstance(part, (ast.Call, ast.ListComp)))
                self.assertTrue(plain or docstring or constant, (path, node.lineno))

    def test_statements_and_values(self):
        self.assertEqual([(path, node.lineno) for path, node in nodes(BARRED_NODES)], [])
        self.assertEqual([path for path, node in nodes((ast.Div, ast.MatMult))], [])
        for path, node in nodes(ast.Constant):
            self.assertNotIsInstance(node.value, (float, complex, bytes), (path, node.lineno))
            if isinstance(node.value, str):
                self.assertNotIn("%", node.value, (path, node.lineno))
        for path, node in nodes(ast.FunctionDef):
            for decorator in node.decorator_list:
                self.assertIn(decorator.id, ("property", "classmethod", "staticmethod"))
            if node.name.startswith("__"):
                self.assertIn(node.name, DOUBLE)

    def test_names(self):
        everything = set(dir(builtins))
        for path, tree in trees():
            for node in ast.walk(tree):
                if isinstance(node, ast.Name) and node.id in everything:
                    self.assertIn(node.id, BUILTINS, (path, node.lineno))
                if isinstance(node, (ast.FunctionDef, ast.Lambda)):
                    self.assertEqual(set(bound_names(node)) & (everything | BARRED_WORDS), set(), path)
                if isinstance(node, ast.Attribute):
                    self.assertNotIn(node.attr, BARRED_WORDS, (path, node.lineno))
                    self.assertIsNone(re.match("__", node.attr), (path, node.lineno))

    def test_methods_that_are_called(self):
        known = METHODS | own_methods()
        for path, node in nodes(ast.Call):
            if isinstance(node.func, ast.Attribute):
                self.assertIn(node.func.attr, known, (path, node.lineno))

    def test_methods_properties_and_attributes_have_unlike_names(self):
        methods, properties = set(), set()
        for _, node in nodes(ast.ClassDef):
            for part in node.body:
                if isinstance(part, ast.FunctionDef):
                    decorators = [decorator.id for decorator in part.decorator_list]
                    (properties if "property" in decorators else methods).add(part.name)
        stored = {node.attr for _, node in nodes(ast.Attribute) if isinstance(node.ctx, ast.Store)}
        self.assertEqual(methods & properties, set())
        self.assertEqual((methods | properties) & stored, set())
        for path, node in nodes(ast.Attribute):
            self.assertIn(node.attr, METHODS | methods | properties | stored, (path, node.lineno))

    def test_loops_do_not_modify_what_they_iterate_over(self):
        for path, node in nodes(ast.For):
            names = {ast.unparse(part) for part in ast.walk(node.iter) if isinstance(part, (ast.Name, ast.Attribute))}
            for part in ast.walk(ast.Module(body=node.body, type_ignores=[])):
                if isinstance(part, ast.Subscript) and isinstance(part.ctx, ast.Store):
                    self.assertNotIn(ast.unparse(part.value), names, (path, part.lineno))
                if isinstance(part, ast.Call) and isinstance(part.func, ast.Attribute):
                    if part.func.attr in ("append", "extend", "insert", "pop", "remove", "clear", "update"):
                        self.assertNotIn(ast.unparse(part.func.value), names, (path, part.lineno))

    def test_sets_are_only_counted_or_sorted(self):
        made = {id(node) for _, node in nodes((ast.Set, ast.SetComp))}
        self.assertEqual(made, set())
        for path, tree in trees():
            counted = [node.args[0] for node in ast.walk(tree) if isinstance(node, ast.Call)
                       and isinstance(node.func, ast.Name) and node.func.id in ("len", "sorted")]
            for node in ast.walk(tree):
                if isinstance(node, ast.Call) and isinstance(node.func, ast.Name) and node.func.id == "set":
                    self.assertIn(node, counted, (path, node.lineno))

    def test_only_lists_for_functions_that_compare(self):
        for path, node in nodes(ast.GeneratorExp):
            self.fail(f"a generator expression: {path}, {node.lineno}")

    def test_errors(self):
        own = {node.name for node in ast.parse((PACKAGE / "errors.py").read_text()).body
               if isinstance(node, ast.ClassDef)}
        for path, node in nodes(ast.ExceptHandler):
            named = node.type.elts if isinstance(node.type, ast.Tuple) else [node.type]
            for name in named:
                self.assertIn(name.id, own | {"KeyError", "ZeroDivisionError"}, (path, node.lineno))
        for path, node in nodes(ast.Raise):
            if node.exc is not None:
                self.assertIn(node.exc.func.id, own, (path, node.lineno))

    def test_double_underscore_methods_assign_nothing(self):
        for path, function in nodes(ast.FunctionDef):
            if function.name in ("__eq__", "__str__", "__repr__", "__len__"):
                stored = [node for node in ast.walk(function)
                          if isinstance(node, (ast.Assign, ast.AugAssign, ast.AnnAssign, ast.NamedExpr))]
                self.assertEqual(stored, [], (path, function.lineno))


if __name__ == "__main__":
    unittest.main()
