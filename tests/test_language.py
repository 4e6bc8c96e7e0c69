"""What of LANGUAGE.md and of the interface can be read off the files of the package."""

import ast
import builtins
import pathlib
import re
import unittest

ROOT = pathlib.Path(__file__).resolve().parent.parent
PACKAGE = ROOT / "vatmatch"

INTERFACE = {
    "errors": (
        "DyeError NoNumber NoMany NoShade NoStuffs NoBook Fails NoHour NoName NoDeed NoBack NoShelf NoMeasures NoStep"
        " TooLittle NoWeights NoPrices NoVat NoBrim NoCloths NoRow"
    ),
    "fractions": "is_fraction fraction plus minus times over below",
    "shades": "is_parts is_shade far",
    "books": "is_deed is_book",
    "walks": "fails_at stands_at",
    "tracing": "stuffs_of mix_of where_is shelf_at",
    "wholes": "by_scale",
    "houses": "House",
    "weighings": "bound",
    "nearest": "nearest",
    "cheapest": "floor_of cheapest",
    "mending": "more mend",
    "leavings": "serves",
    "reach": "reached",
    "checker": "holds",
    "papers": "paper_near paper_cheap paper_mend paper_served",
    "desk": "Desk",
}

# The methods of each class of the interface, with their parameters.
CLASSES = {
    ("houses", "House"): {
        "__init__": "many", "enter": "hour deed", "strike": "hour", "right": "hour deed", "back": "", "book": "",
        "stands": "hour", "cloths": "", "amiss": "", "match": "hour shade measures step", "matches": "",
    },
    ("desk", "Desk"): {"__init__": "many", "say": "row"},
}

# The parameters of each function of the interface that has more than one.
PARAMETERS = {
    ("shades", "far"): "many shade stuffs",
    ("books", "is_deed"): "many thing",
    ("books", "is_book"): "many thing",
    ("walks", "fails_at"): "many book",
    ("walks", "stands_at"): "many book hour",
    ("tracing", "stuffs_of"): "many book hour name",
    ("tracing", "mix_of"): "many book hour name",
    ("tracing", "where_is"): "many book hour lot",
    ("tracing", "shelf_at"): "many book hour",
    ("wholes", "by_scale"): "many shelf shade measures step",
    ("weighings", "bound"): "many shelf shade measures weights",
    ("nearest", "nearest"): "many shelf shade measures",
    ("cheapest", "floor_of"): "many shelf shade measures prices weights",
    ("cheapest", "cheapest"): "many shelf shade measures prices",
    ("mending", "more"): "many vat shelf shade weights",
    ("mending", "mend"): "many vat shelf shade brim",
    ("leavings", "serves"): "many leavings cloths",
    ("reach", "reached"): "many book hour",
    ("checker", "holds"): "claim paper",
    ("papers", "paper_near"): "many shelf shade measures",
    ("papers", "paper_cheap"): "many shelf shade measures prices",
    ("papers", "paper_mend"): "many vat shelf shade brim",
    ("papers", "paper_served"): "many leavings cloths",
}

BARRED_WORDS = (
    "type typing typing_extensions enum Enum IntEnum StrEnum Flag IntFlag Generic Protocol ABC ABCMeta namedtuple"
    " NamedTuple TypedDict TYPE_CHECKING abstractmethod"
).split()

BUILTINS = (
    "len range enumerate zip min max sum abs sorted reversed int str bool bytes list tuple dict set frozenset isinstance"
    " ord repr any all divmod iter next super property staticmethod classmethod Exception ValueError TypeError KeyError"
    " IndexError LookupError ZeroDivisionError ArithmeticError OverflowError RuntimeError NotImplementedError"
    " AttributeError StopIteration NotImplemented"
).split()

METHODS = (
    "append clear copy count endswith extend find get index insert isalnum isalpha isdigit islower isspace isupper items"
    " join keys ljust lower lstrip partition pop remove replace reverse rfind rjust rpartition rsplit rstrip setdefault"
    " split splitlines startswith strip update upper values zfill bit_length"
).split()

OTHER_NODES = (
    ast.Div, ast.MatMult, ast.Global, ast.AsyncFunctionDef, ast.AsyncFor, ast.AsyncWith, ast.Await, ast.Import,
)


def files():
    return sorted(PACKAGE.rglob("*.py"))


def trees():
    return [(path, ast.parse(path.read_text(encoding="utf-8"))) for path in files()]


def bound_names(tree):
    """Every name that a file gives a meaning."""
    for node in ast.walk(tree):
        if isinstance(node, ast.Name) and not isinstance(node.ctx, ast.Load):
            yield node.id
        elif isinstance(node, (ast.FunctionDef, ast.ClassDef)):
            yield node.name
        elif isinstance(node, ast.arg):
            yield node.arg
        elif isinstance(node, ast.alias):
            yield node.asname or node.name


def imports_of_files():
    """For each file of the package the files from which it imports."""
    return {
        path.stem: {node.module.split(".")[1] for node in ast.walk(tree) if isinstance(node, ast.ImportFrom)}
        for path, tree in trees()
    }


def reached_by_imports(imported, module):
    """The files from which a file imports, directly or through others."""
    found, waiting = set(), [module]
    while waiting:
        for other in imported[waiting.pop()] - found:
            found.add(other)
            waiting.append(other)
    return found


class Files(unittest.TestCase):
    def test_nothing_but_python_files(self):
        for path in PACKAGE.rglob("*"):
            if "__pycache__" not in path.parts:
                self.assertTrue(path.is_dir() or re.fullmatch(r"[a-z0-9_]+\.py", path.name), path)
        self.assertIn(PACKAGE / "__init__.py", files())

    def test_sizes_and_signs(self):
        for path in files():
            text = path.read_text(encoding="utf-8")
            self.assertRegex(text, r"\A[ -~\n]*\Z", path)
            rows = text.splitlines()
            self.assertLess(len(rows), 400, path)
            self.assertLessEqual(max(map(len, rows)), 120, path)

    def test_functions_are_short(self):
        for path, tree in trees():
            for node in ast.walk(tree):
                if isinstance(node, ast.FunctionDef):
                    self.assertLessEqual(node.end_lineno - node.lineno + 1, 40, (path, node.name))

    def test_barred_words(self):
        for path in files():
            words = re.findall(r"\w+", path.read_text(encoding="utf-8"))
            self.assertEqual([word for word in words if word in BARRED_WORDS], [], path)
            for word in ("dataclass", "overload", "contextmanager"):
                self.assertNotIn(word, path.read_text(encoding="utf-8"), path)


class Code(unittest.TestCase):
    def test_imports_are_of_the_package_and_of_the_defining_file(self):
        for path, tree in trees():
            for node in ast.walk(tree):
                if isinstance(node, ast.ImportFrom):
                    self.assertIn(node, tree.body, path)
                    self.assertEqual(node.level, 0, path)
                    self.assertRegex(node.module, r"\Avatmatch\.\w+\Z", path)
                    source = ast.parse((ROOT / (node.module.replace(".", "/") + ".py")).read_text(encoding="utf-8"))
                    defined = [part.name for part in source.body if isinstance(part, (ast.FunctionDef, ast.ClassDef))]
                    defined += [t.id for part in source.body if isinstance(part, ast.Assign) for t in part.targets]
                    for alias in node.names:
                        self.assertIn(alias.name, defined, path)

    def test_no_two_files_import_from_each_other(self):
        imported = imports_of_files()
        for module in imported:
            self.assertNotIn(module, reached_by_imports(imported, module))

    def test_the_checker_imports_fractions_and_shades_alone(self):
        self.assertEqual(imports_of_files()["checker"], {"fractions", "shades"})
        self.assertEqual(reached_by_imports(imports_of_files(), "checker"), {"fractions", "shades", "errors"})

    def test_only_allowed_statements_values_and_builtins(self):
        known = set(BUILTINS)
        for path, tree in trees():
            names = known | set(bound_names(tree))
            for node in ast.walk(tree):
                self.assertNotIsInstance(node, OTHER_NODES, (path, getattr(node, "lineno", 0)))
                if isinstance(node, ast.Constant):
                    self.assertNotIsInstance(node.value, (float, complex), (path, node.lineno))
                if isinstance(node, ast.Name) and isinstance(node.ctx, ast.Load):
                    self.assertIn(node.id, names, (path, node.lineno))

    def test_names_are_plain_and_no_builtins(self):
        for path, tree in trees():
            for name in bound_names(tree):
                self.assertRegex(name, r"\A([A-Za-z][A-Za-z0-9_]*|__\w+__)\Z", path)
                if not name.startswith("__"):
                    self.assertNotIn(name, dir(builtins), path)

    def test_names_at_module_level_are_bound_once(self):
        for path, tree in trees():
            names = []
            for node in tree.body:
                if isinstance(node, (ast.FunctionDef, ast.ClassDef)):
                    names.append(node.name)
                elif isinstance(node, ast.ImportFrom):
                    names += [alias.name for alias in node.names]
                elif isinstance(node, ast.Assign):
                    names += [target.id for target in node.targets]
                else:
                    self.assertIsInstance(node, ast.Expr, path)
            self.assertEqual(len(names), len(set(names)), path)


    def test_is_stands_with_none_and_truths_alone(self):
        for path, tree in trees():
            for node in ast.walk(tree):
                if isinstance(node, ast.Compare):
                    for sign, other in zip(node.ops, node.comparators):
                        if isinstance(sign, (ast.Is, ast.IsNot)):
                            self.assertIsInstance(other, ast.Constant, (path, node.lineno))
                            self.assertIn(other.value, (None, True, False), (path, node.lineno))

    def test_names_of_parameters_are_those_of_no_import_class_or_function(self):
        for path, tree in trees():
            names = [alias.name for node in tree.body if isinstance(node, ast.ImportFrom) for alias in node.names]
            names += [node.name for node in tree.body if isinstance(node, (ast.FunctionDef, ast.ClassDef))]
            for node in ast.walk(tree):
                if isinstance(node, ast.arg):
                    self.assertNotIn(node.arg, names, (path, node.lineno))
                if isinstance(node, ast.Name) and not isinstance(node.ctx, ast.Load):
                    self.assertNotIn(node.id, names, (path, node.lineno))


def methods_and_attributes():
    """The names of all methods, and of all attributes that are assigned, of the whole package."""
    methods, attributes = set(), set()
    for path, tree in trees():
        for node in ast.walk(tree):
            if isinstance(node, ast.ClassDef):
                methods |= {part.name for part in node.body if isinstance(part, ast.FunctionDef)}
            if isinstance(node, ast.Attribute) and not isinstance(node.ctx, ast.Load):
                attributes.add(node.attr)
    return methods, attributes


class Objects(unittest.TestCase):
    def test_no_name_is_a_method_and_an_attribute(self):
        methods, attributes = methods_and_attributes()
        self.assertEqual(methods & attributes, set())

    def test_own_names_are_no_methods_of_builtin_values(self):
        methods, attributes = methods_and_attributes()
        for kind in (str, int, list, dict, set, bytes, tuple):
            self.assertEqual({name for name in methods | attributes if name in dir(kind) and name != "__init__"}, set())

    def test_what_is_called_or_read_is_there(self):
        methods, attributes = methods_and_attributes()
        for path, tree in trees():
            called = {id(node.func) for node in ast.walk(tree) if isinstance(node, ast.Call)}
            for node in ast.walk(tree):
                if isinstance(node, ast.Attribute) and isinstance(node.ctx, ast.Load):
                    known = methods | set(METHODS) if id(node) in called else attributes
                    self.assertIn(node.attr, known, (path, node.lineno))


def defined_in(module):
    """The functions and classes of a file, by their names."""
    tree = ast.parse((PACKAGE / (module + ".py")).read_text(encoding="utf-8"))
    return {node.name: node for node in tree.body if isinstance(node, (ast.FunctionDef, ast.ClassDef))}


def parameters_of(node):
    return [part.arg for part in node.args.args]


class Interface(unittest.TestCase):
    def test_each_name_is_defined_in_its_file(self):
        for module, names in INTERFACE.items():
            for name in names.split():
                self.assertIn(name, defined_in(module))

    def test_each_method_is_defined_in_its_class(self):
        for (module, name), methods in CLASSES.items():
            own = defined_in(module)[name]
            found = {part.name: part for part in own.body if isinstance(part, ast.FunctionDef)}
            for method, parameters in methods.items():
                self.assertEqual(parameters_of(found[method]), ["self", *parameters.split()], method)

    def test_parameters_of_functions(self):
        for (module, name), parameters in PARAMETERS.items():
            self.assertEqual(parameters_of(defined_in(module)[name]), parameters.split(), name)


if __name__ == "__main__":
    unittest.main()
