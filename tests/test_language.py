"""The rules of the language that can be seen in a file alone, over all files of the package."""

import ast
import builtins
import pathlib
import re
import unittest

FOLDER = pathlib.Path(__file__).resolve().parent.parent / "leastlap"
FILES = {path.stem: path.read_text(encoding="utf-8") for path in sorted(FOLDER.glob("*.py"))}
TREES = {name: ast.parse(text) for name, text in FILES.items()}

LIBRARY = {"heapq": {"heappush", "heappop", "heapify", "heapreplace", "heappushpop"},
           "math": {"gcd", "lcm", "isqrt", "comb", "perm", "factorial"},
           "itertools": {"product", "combinations", "permutations", "chain", "accumulate", "pairwise", "islice",
                         "zip_longest"},
           "collections": {"defaultdict"}}
BUILTINS = set("""len range enumerate zip min max sum abs sorted reversed int str bool bytes list tuple dict set frozenset
isinstance ord repr any all divmod pow getattr hasattr setattr iter next map super property classmethod staticmethod Exception
ValueError TypeError KeyError IndexError LookupError ZeroDivisionError ArithmeticError OverflowError RuntimeError
NotImplementedError AttributeError StopIteration NotImplemented""".split())
METHODS = set("""append clear copy count endswith extend find get index insert isalnum isalpha isdigit islower isspace isupper
items join keys ljust lower lstrip partition pop remove replace reverse rfind rjust rpartition rsplit rstrip setdefault split
splitlines startswith strip update upper values zfill bit_length title capitalize swapcase casefold center expandtabs
removeprefix removesuffix rindex isascii isdecimal isnumeric istitle isidentifier isprintable translate add discard""".split())
DUNDERS = set("""init eq repr str len enter exit call iter lt le gt ge ne add sub mul floordiv mod pow and or xor lshift rshift
radd rsub rmul rfloordiv rmod rand ror rxor rlshift rrshift iadd isub imul ifloordiv imod ipow iand ior ixor ilshift irshift neg
pos invert abs bool contains getitem setitem""".split())
NEVER = set("register mro elements open input law version_info with_traceback add_note".split())
BARRED = re.compile(r"\b(type|typing|typing_extensions|enum|Enum|IntEnum|StrEnum|Flag|IntFlag|Generic|Protocol|ABC|ABCMeta|"
                    r"namedtuple|NamedTuple|TypedDict|TYPE_CHECKING|abstractmethod)\b|dataclass|overload|contextmanager|"
                    r"Meta|_wall|metaclass=")
KEYWORDS = {"sorted": {"key", "reverse"}, "min": {"key", "default"}, "max": {"key", "default"}, "sum": {"start"},
            "enumerate": {"start"}, "zip": {"strict"}}


def all_nodes(kind):
    """All nodes of a kind, with the name of their file."""
    for name, tree in TREES.items():
        for node in ast.walk(tree):
            if isinstance(node, kind):
                yield name, node


def called_name(node):
    return node.func.id if isinstance(node, ast.Call) and isinstance(node.func, ast.Name) else None


def bound_names(tree):
    """All names that a tree binds in its functions."""
    for node in ast.walk(tree):
        if isinstance(node, ast.Name) and isinstance(node.ctx, ast.Store):
            yield node.id
        elif isinstance(node, ast.arg):
            yield node.arg
        elif isinstance(node, ast.ExceptHandler) and node.name:
            yield node.name


class FilesTest(unittest.TestCase):
    def test_the_folder_holds_files_of_python_alone(self):
        for path in FOLDER.iterdir():
            if path.name != "__pycache__":
                self.assertRegex(path.name, r"^(?:__init__|__main__|[a-z][a-z0-9_]*)\.py$")
        self.assertIn("__init__", FILES)

    def test_lines_and_characters(self):
        for name, text in FILES.items():
            self.assertRegex(text, r"\A[ -~\n]*\Z", name)
            self.assertLessEqual(text.count("\n"), 399, name)
            self.assertLessEqual(max(len(line) for line in text.split("\n")), 120, name)

    def test_length_of_functions(self):
        for name, node in all_nodes(ast.FunctionDef):
            self.assertLessEqual(node.end_lineno - node.lineno + 1, 40, (name, node.name))

    def test_words(self):
        for name, text in FILES.items():
            self.assertIsNone(BARRED.search(text), name)


class ModulesTest(unittest.TestCase):
    def test_imports(self):
        for name, node in all_nodes((ast.Import, ast.ImportFrom)):
            self.assertIsInstance(node, ast.ImportFrom, name)
            for alias in node.names:
                self.assertIsNone(alias.asname, name)
                if node.module.startswith("leastlap."):
                    tree = TREES[node.module.partition(".")[2]]
                    self.assertIn(alias.name, {getattr(part, "name", None) or part.targets[0].id for part in tree.body if
                                               isinstance(part, (ast.FunctionDef, ast.ClassDef, ast.Assign))})
                else:
                    self.assertIn(alias.name, LIBRARY[node.module], name)

    def test_no_two_files_import_from_each_other(self):
        ahead = {name: {node.module.partition(".")[2] for other, node in all_nodes(ast.ImportFrom) if other == name}
                 for name in TREES}
        done = set()
        while len(done) < len(TREES):
            ready = {name for name in TREES if name not in done and ahead[name] & set(TREES) <= done}
            self.assertTrue(ready, set(TREES) - done)
            done |= ready

    def test_module_level(self):
        for name, tree in TREES.items():
            behind = False
            for part in tree.body:
                docstring = isinstance(part, ast.Expr) and isinstance(part.value, ast.Constant)
                self.assertTrue(docstring or isinstance(part, (ast.ImportFrom, ast.FunctionDef, ast.ClassDef, ast.Assign)), name)
                if isinstance(part, ast.ImportFrom):
                    self.assertFalse(behind, name)
                behind = behind or not docstring and not isinstance(part, ast.ImportFrom)
                if isinstance(part, ast.Assign):
                    self.assertEqual(len(part.targets), 1)
                    self.assertFalse([node for node in ast.walk(part.value) if isinstance(node, (ast.Call, ast.Lambda))], name)

    def test_every_import_is_used(self):
        for name, tree in TREES.items():
            loaded = {node.id for node in ast.walk(tree) if isinstance(node, ast.Name)}
            for node in ast.walk(tree):
                if isinstance(node, ast.ImportFrom):
                    self.assertLessEqual({alias.name for alias in node.names}, loaded, name)


class NamesTest(unittest.TestCase):
    def test_bound_names(self):
        for name, tree in TREES.items():
            taken = {part.name for part in tree.body if isinstance(part, ast.ClassDef)}
            taken |= {alias.name for part in tree.body if isinstance(part, ast.ImportFrom) for alias in part.names}
            for bound in bound_names(tree):
                self.assertNotIn(bound, taken, name)
                self.assertFalse(hasattr(builtins, bound), (name, bound))
                self.assertRegex(bound, r"^(?:_|_?[A-Za-z][A-Za-z0-9_]*)$")
            defined = {part.name for part in tree.body if isinstance(part, (ast.FunctionDef, ast.ClassDef))}
            self.assertFalse([other for other in defined if hasattr(builtins, other)], name)

    def test_builtins(self):
        for name, node in all_nodes(ast.Name):
            if hasattr(builtins, node.id):
                self.assertIn(node.id, BUILTINS, name)

    def test_names_that_are_not_used(self):
        for name, node in all_nodes((ast.Name, ast.Attribute, ast.arg, ast.FunctionDef, ast.ClassDef, ast.keyword)):
            word = getattr(node, "id", None) or getattr(node, "attr", None) or getattr(node, "arg", None) or getattr(
                node, "name", None)
            self.assertNotIn(word, NEVER, name)

    def test_underscore_is_never_read(self):
        for name, node in all_nodes(ast.Name):
            self.assertFalse(node.id == "_" and isinstance(node.ctx, ast.Load), name)

    def test_double_underscores(self):
        for name, node in all_nodes(ast.FunctionDef):
            if node.name.startswith("__"):
                self.assertIn(node.name.strip("_"), DUNDERS, name)
        for name, node in all_nodes(ast.Attribute):
            self.assertFalse(node.attr.startswith("__"), (name, node.attr))


class ExpressionsTest(unittest.TestCase):
    def test_kinds(self):
        barred = (ast.GeneratorExp, ast.Div, ast.MatMult, ast.Global, ast.AsyncFunctionDef, ast.Await, ast.YieldFrom)
        for name, node in all_nodes(barred):
            self.assertIsInstance(node, ast.YieldFrom, (name, node.lineno))
        for name, node in all_nodes(ast.Constant):
            self.assertNotIsInstance(node.value, (float, complex), name)

    def test_strings(self):
        for name, node in all_nodes(ast.Constant):
            if isinstance(node.value, str):
                self.assertNotIn(chr(37), node.value, name)
                self.assertFalse(node.value.endswith(("._", ".__")) or node.value.startswith("__"), name)

    def test_exponents(self):
        for name, node in all_nodes(ast.BinOp):
            if isinstance(node.op, ast.Pow):
                self.assertIsInstance(node.right, ast.Constant, name)
                self.assertIn(node.right.value, range(65), name)

    def test_is(self):
        for name, node in all_nodes(ast.Compare):
            for sign, right in zip(node.ops, node.comparators):
                if isinstance(sign, (ast.Is, ast.IsNot)):
                    self.assertIn(getattr(right, "value", 0), (None, True, False), name)

    def test_sets_are_sorted_on_the_spot(self):
        allowed = {id(argument) for _, node in all_nodes(ast.Call) if called_name(node) in ("sorted", "len")
                   for argument in node.args}
        for name, node in all_nodes((ast.Call, ast.Set, ast.SetComp)):
            if not isinstance(node, ast.Call) or called_name(node) == "set":
                self.assertIn(id(node), allowed, (name, node.lineno))

    def test_ranges_and_their_like_are_iterated_at_once(self):
        takers = ("list", "tuple", "dict", "sorted", "sum", "any", "all", "enumerate", "zip", "min", "max")
        allowed = {id(node.iter) for _, node in all_nodes((ast.For, ast.comprehension))}
        allowed |= {id(node.args[0]) for _, node in all_nodes(ast.Call) if called_name(node) in takers}
        allowed |= {id(right) for _, node in all_nodes(ast.Compare) for right in node.comparators}
        for name, node in all_nodes(ast.Call):
            views = isinstance(node.func, ast.Attribute) and node.func.attr in ("items", "keys", "values")
            if views or called_name(node) in ("range", "zip", "enumerate", "reversed", "map"):
                self.assertIn(id(node), allowed, (name, node.lineno))

    def test_properties_and_operators_change_nothing(self):
        for name, node in all_nodes(ast.FunctionDef):
            operator = node.name.startswith("__") and node.name != "__init__"
            if operator or "property" in [ast.unparse(part) for part in node.decorator_list]:
                for part in ast.walk(node):
                    self.assertNotIsInstance(part, (ast.AugAssign, ast.Delete), (name, node.name))
                    self.assertFalse(isinstance(part, (ast.Attribute, ast.Subscript)) and not isinstance(part.ctx, ast.Load),
                                     (name, node.name))

    def test_what_is_called(self):
        own = {node.name for _, node in all_nodes((ast.FunctionDef, ast.ClassDef))}
        for name, node in all_nodes(ast.Call):
            if isinstance(node.func, ast.Attribute):
                self.assertIn(node.func.attr, METHODS | own, name)
                if node.func.attr in METHODS:
                    self.assertFalse(node.keywords, name)
            else:
                self.assertIn(node.func.id, own | BUILTINS | {"cls"} | set().union(*LIBRARY.values()), name)
            told = {keyword.arg for keyword in node.keywords}
            if called_name(node) in BUILTINS:
                self.assertLessEqual(told, KEYWORDS.get(called_name(node), set()), name)

    def test_reversed_takes_lists(self):
        for name, node in all_nodes(ast.Call):
            if called_name(node) == "reversed":
                self.assertIn(called_name(node.args[0]), ("list", "tuple", "sorted", "range"), (name, node.lineno))

    def test_stars_stand_before_names(self):
        """Behind a star in a call stand names, attributes and literals, and only own functions and a few others take one."""
        own = {node.name for _, node in all_nodes((ast.FunctionDef, ast.ClassDef))}
        for name, node in all_nodes(ast.Call):
            for argument in node.args:
                if isinstance(argument, ast.Starred):
                    self.assertIsInstance(argument.value, (ast.Name, ast.Attribute, ast.List, ast.Tuple), (name, node.lineno))
                    self.assertIn(called_name(node), own | {"cls", "max", "min", "zip"}, (name, node.lineno))

    def test_lists_are_not_sorted_in_place(self):
        for name, node in all_nodes(ast.Attribute):
            self.assertNotEqual(node.attr, "sort", name)

    def test_init_has_no_return(self):
        for name, node in all_nodes(ast.FunctionDef):
            if node.name == "__init__":
                self.assertFalse([part for part in ast.walk(node) if isinstance(part, ast.Return)], name)

    def test_generators_are_iterated_at_once(self):
        made = {node.name for _, node in all_nodes(ast.FunctionDef)
                if any(isinstance(part, (ast.Yield, ast.YieldFrom)) for part in ast.walk(node))}
        allowed = {id(node.iter) for _, node in all_nodes((ast.For, ast.comprehension))}
        allowed |= {id(node.value) for _, node in all_nodes(ast.YieldFrom)}
        for name, node in all_nodes(ast.Call):
            if (called_name(node) or getattr(node.func, "attr", None)) in made:
                self.assertIn(id(node), allowed, name)


class ClassesTest(unittest.TestCase):
    def test_decorators(self):
        for name, node in all_nodes((ast.FunctionDef, ast.ClassDef)):
            for decorator in node.decorator_list:
                self.assertIn(ast.unparse(decorator).partition(".")[2] or ast.unparse(decorator),
                              ("property", "classmethod", "staticmethod", "setter"), name)

    def test_names_of_methods(self):
        """No name is a method and an attribute in one class; those of properties and class methods are of their own."""
        plain, decorated, stored = set(), set(), set()
        for name, node in all_nodes(ast.ClassDef):
            methods = [part for part in node.body if isinstance(part, ast.FunctionDef)]
            self.assertEqual(len({part.name for part in methods}), len(methods), (name, node.name))
            plain |= {part.name for part in methods if not part.decorator_list}
            decorated |= {part.name for part in methods if part.decorator_list}
            mine = {part.attr for part in ast.walk(node) if isinstance(part, ast.Attribute) and isinstance(part.ctx, ast.Store)}
            self.assertFalse(mine & {part.name for part in methods}, (name, node.name))
            stored |= mine
        self.assertFalse(decorated & (plain | stored))

    def test_names_of_generators(self):
        made = {node.name for _, node in all_nodes(ast.FunctionDef)
                if any(isinstance(part, (ast.Yield, ast.YieldFrom)) for part in ast.walk(node))}
        names = [node.name for _, node in all_nodes(ast.FunctionDef)]
        for name in made:
            self.assertEqual(names.count(name), 1, name)

    def test_errors_that_are_caught(self):
        own = {node.name for name, node in all_nodes(ast.ClassDef) if name == "errors"}
        for name, node in all_nodes(ast.ExceptHandler):
            caught = node.type.elts if isinstance(node.type, ast.Tuple) else [node.type]
            for error in caught:
                self.assertIn(error.id, own | {"KeyError", "ZeroDivisionError"}, name)

    def test_lengths_are_plain(self):
        for name, node in all_nodes(ast.FunctionDef):
            if node.name == "__len__":
                self.assertEqual(called_name(node.body[-1].value), "len", name)

    def test_a_class_with_items_tells_how_it_is_iterated_over(self):
        for name, node in all_nodes(ast.ClassDef):
            methods = {part.name for part in node.body if isinstance(part, ast.FunctionDef)}
            self.assertTrue("__getitem__" not in methods or "__iter__" in methods, name)


if __name__ == "__main__":
    unittest.main()
