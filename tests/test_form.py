"""The rules for the files of the package that a look at their text can decide.

It cannot decide all rules; what it finds is certainly wrong.
"""

import ast
import builtins
import pathlib
import re
import unittest
import warnings

PACKAGE = pathlib.Path(__file__).resolve().parent.parent / "climbtickets"

BUILTINS = set("""
    len range enumerate zip min max sum abs sorted reversed int str bool bytes list tuple dict set frozenset isinstance
    ord repr any all divmod pow getattr hasattr setattr iter next map type super property staticmethod classmethod
    Exception ValueError TypeError KeyError IndexError LookupError ZeroDivisionError ArithmeticError OverflowError
    RuntimeError NotImplementedError AttributeError StopIteration NotImplemented
""".split())

SPECIAL_METHODS = {f"__{name}__" for name in """
    init eq repr str len enter exit call iter lt le gt ge ne add sub mul floordiv mod pow and or xor lshift rshift
    radd rsub rmul rfloordiv rmod rand ror rxor rlshift rrshift iadd isub imul ifloordiv imod iand ior ixor
    neg pos invert abs bool contains getitem setitem
""".split()}

UNUSED_NAMES = set("""
    register mro elements open input law version_info with_traceback add_note attrgetter breakpoint builtins compile
    copyright credits delattr dir eval exec exit gc globals help id importlib license locals methodcaller os quit vars
""".split())

UNUSED_WORDS = re.compile(
    r"\b(typing|typing_extensions|enum|Enum|IntEnum|StrEnum|Flag|IntFlag|Generic|Protocol|ABC|ABCMeta|namedtuple"
    r"|NamedTuple|TypedDict|TYPE_CHECKING|abstractmethod)\b|dataclass|overload|contextmanager|\(type\)|Meta|metaclass=")


def package_files():
    return sorted(path for path in PACKAGE.rglob("*") if path.is_file() and path.suffix != ".pyc")


def trees():
    for path in package_files():
        tree = ast.parse(path.read_text(encoding="utf-8"))
        for node in ast.walk(tree):
            yield path.name, node


def place(name, node):
    return f"{name}:{node.lineno}"


def functions():
    return [(name, node) for name, node in trees() if isinstance(node, ast.FunctionDef)]


class FormTest(unittest.TestCase):
    def assert_none(self, wrong):
        self.assertEqual(list(wrong), [])

    def test_files(self):
        names = [path.name for path in package_files()]
        self.assertIn("__init__.py", names)
        self.assert_none(name for name in names if not re.fullmatch(r"[a-z_][a-z0-9_]*\.py", name))

    def test_characters_and_sizes(self):
        for path in package_files():
            with self.subTest(path.name):
                text = path.read_bytes().decode("ascii")
                self.assert_none(sign for sign in text if not (" " <= sign <= "~" or sign == "\n"))
                lines = text.split("\n")
                self.assertLessEqual(len(lines), 400)
                self.assert_none(line for line in lines if len(line) > 120)
                with warnings.catch_warnings():
                    warnings.simplefilter("error")
                    compile(text, path.name, "exec")

    def test_functions_are_short(self):
        self.assert_none(place(name, node) for name, node in functions() if node.end_lineno - node.lineno >= 40)

    def test_imports(self):
        wrong = []
        for name, node in trees():
            if isinstance(node, ast.Import):
                wrong.append(place(name, node))
            if isinstance(node, ast.ImportFrom):
                if node.level or not node.module.startswith("climbtickets.") or any(a.asname for a in node.names):
                    wrong.append(place(name, node))
        self.assert_none(wrong)

    def test_decorators(self):
        wrong = []
        for name, node in trees():
            if isinstance(node, (ast.FunctionDef, ast.ClassDef)):
                for each in node.decorator_list:
                    if ast.unparse(each) not in ("property", "staticmethod", "classmethod"):
                        wrong.append(place(name, node))
        self.assert_none(wrong)

    def test_special_methods(self):
        self.assert_none(place(name, node) for name, node in functions()
                         if node.name.startswith("__") and node.name not in SPECIAL_METHODS)

    def test_parameters_of_special_methods(self):
        expected = {"__contains__": ["self", "x"], "__getitem__": ["self", "at"]}
        for sign in ("eq", "lt", "le", "add", "sub"):
            expected[f"__{sign}__"] = ["self", "other"]
        self.assert_none(place(name, node) for name, node in functions()
                         if node.name in expected and [a.arg for a in node.args.args] != expected[node.name])

    def test_classes_with_items_say_that_they_are_not_iterated_over(self):
        for name, node in trees():
            if isinstance(node, ast.ClassDef):
                methods = {each.name: each for each in node.body if isinstance(each, ast.FunctionDef)}
                if "__getitem__" in methods:
                    with self.subTest(node.name):
                        body = methods["__iter__"].body
                        self.assertEqual(len(body), 1)
                        self.assertRegex(ast.unparse(body[0]), r"^raise TypeError\('")

    def test_values_and_expressions(self):
        barred = (ast.GeneratorExp, ast.Set, ast.SetComp, ast.Div, ast.Global, ast.Await, ast.AsyncFunctionDef)
        wrong = [place(name, node) for name, node in trees() if isinstance(node, barred) and hasattr(node, "lineno")]
        wrong += [name for name, node in trees() if isinstance(node, ast.Div)]
        for name, node in trees():
            if isinstance(node, ast.Constant) and isinstance(node.value, (float, complex)):
                wrong.append(place(name, node))
            if isinstance(node, ast.Constant) and isinstance(node.value, str) and "%" in node.value:
                wrong.append(place(name, node))
        self.assert_none(wrong)

    def test_names(self):
        wrong = []
        for name, node in trees():
            if isinstance(node, ast.Name) and node.id in vars(builtins) and node.id not in BUILTINS:
                wrong.append(place(name, node))
            for word in (getattr(node, "id", None), getattr(node, "arg", None), getattr(node, "name", None),
                         getattr(node, "attr", None)):
                if word in UNUSED_NAMES or (isinstance(word, str) and word.startswith(("_wall", "_pe_", "_law_"))):
                    wrong.append(place(name, node))
        self.assert_none(wrong)

    def test_names_of_builtins_get_no_other_meaning(self):
        wrong = []
        for name, node in trees():
            bound = getattr(node, "id", None) if isinstance(getattr(node, "ctx", None), ast.Store) else None
            if isinstance(node, (ast.FunctionDef, ast.ClassDef)):
                bound = node.name
            if isinstance(node, ast.arg):
                bound = node.arg
            if bound in vars(builtins):
                wrong.append(place(name, node))
        self.assert_none(wrong)

    def test_no_imports_in_a_circle(self):
        imports = {path.stem: set() for path in package_files()}
        for name, node in trees():
            if isinstance(node, ast.ImportFrom):
                imports[name.removesuffix(".py")].add(node.module.removeprefix("climbtickets."))
        while imports:
            free = [name for name in imports if not imports[name] & set(imports)]
            self.assertNotEqual(free, [])
            for name in free:
                del imports[name]

    def test_names_are_imported_from_the_file_that_defines_them(self):
        defined = {(name, node.name) for name, node in trees() if isinstance(node, (ast.FunctionDef, ast.ClassDef))}
        wrong = []
        for name, node in trees():
            if isinstance(node, ast.ImportFrom):
                file = node.module.removeprefix("climbtickets.") + ".py"
                wrong += [place(name, node) for each in node.names if (file, each.name) not in defined]
        self.assert_none(wrong)

    def test_no_variable_has_the_name_of_a_class_or_an_import_of_its_file(self):
        taken = {(name, node.name) for name, node in trees() if isinstance(node, ast.ClassDef)}
        taken |= {(name, each.name) for name, node in trees() if isinstance(node, ast.ImportFrom) for each in node.names}
        wrong = [place(name, node) for name, node in trees() if isinstance(node, ast.arg) and (name, node.arg) in taken]
        wrong += [place(name, node) for name, node in trees()
                  if isinstance(node, ast.Name) and isinstance(node.ctx, ast.Store) and (name, node.id) in taken]
        self.assert_none(wrong)

    def test_only_names_behind_a_star(self):
        wrong = []
        for name, node in trees():
            if isinstance(node, ast.Call):
                wrong += [place(name, node) for each in node.args
                          if isinstance(each, ast.Starred) and not isinstance(each.value, ast.Name)]
        self.assert_none(wrong)

    def test_generators_are_iterated_at_once(self):
        # Each call of a generator stands after `in` of a `for`, in `list` or `enumerate`, or behind `yield from`.
        own = {node.name for _, node in functions() if any(isinstance(each, (ast.Yield, ast.YieldFrom))
                                                           for each in ast.walk(node))}
        self.assertIn("single_rows", own)
        self.assertEqual(len([node for _, node in functions() if node.name in own]), len(own))
        calls, iterated = [], []
        for name, node in trees():
            if isinstance(node, ast.Name) and node.id in own:
                calls.append(place(name, node))
            if isinstance(node, ast.Call) and ast.unparse(node.func) in ("list", "enumerate"):
                inner = node.args
            elif isinstance(node, ast.YieldFrom):
                inner = [node.value]
            elif isinstance(node, ast.For):
                inner = [node.iter]
            else:
                inner = []
            for each in inner:
                if isinstance(each, ast.Call) and isinstance(each.func, ast.Name) and each.func.id in own:
                    iterated.append(place(name, each))
                    self.assertTrue(all(isinstance(one, (ast.Name, ast.Attribute, ast.Constant)) for one in each.args))
        self.assertEqual(sorted(calls), sorted(iterated))

    def test_words(self):
        for path in package_files():
            self.assertIsNone(UNUSED_WORDS.search(path.read_text()))

    def test_order_of_numbers_only(self):
        # Some classes have an order that is not total: sorted, min and max take what is plainly numbers.
        wrong = []
        for name, node in trees():
            if isinstance(node, ast.Call) and ast.unparse(node.func) in ("sorted", "min", "max"):
                keys = [ast.unparse(each.value) for each in node.keywords if each.arg == "key"]
                plain = [each for each in node.args if isinstance(each, ast.Constant)
                         or ast.unparse(each).startswith(("len(", "int(", "[len(", "[int("))]
                if keys not in (["int"], ["len"], ["str"]) and not plain:
                    wrong.append(place(name, node))
        self.assert_none(wrong)


if __name__ == "__main__":
    unittest.main()
