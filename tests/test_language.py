"""That the package keeps to the subset of the language, as far as a test can tell."""

import ast
import builtins
import pathlib
import unittest
import warnings

from tests import language

FOLDER = pathlib.Path(__file__).resolve().parent.parent / "earlyfields"
FILES = sorted([path for path in FOLDER.rglob("*") if "__pycache__" not in path.parts])
SOURCES = {path.stem: path.read_text(encoding="utf-8") for path in FILES if path.suffix == ".py"}
TREES = {stem: ast.parse(source) for stem, source in SOURCES.items()}

# Where the interface lists what.
INTERFACE = {
    "errors": ("EarlyError", "BadText", "TooMany", "Twice", "NoClass", "NoOrder", "NotABase", "Final", "NotChained",
               "NotLawful", "BadKey", "BadName", "BadOrder", "BadDeed", "BadLimit", "Far", "Gap", "Long", "NoObject", "NoEnd"),
    "texts": ("is_word", "is_key", "read_steps", "write_steps"),
    "families": ("Family", "Extension"),
    "orders": ("old_orders", "is_old_order", "heir_of"),
    "watchers": ("Watcher", "Tally", "Places", "Report"),
    "engine": ("Maker",),
    "stories": ("tell", "is_lawful", "Run"),
    "ends": ("Ends",),
    "judging": ("judge", "Verdict"),
    "checking": ("is_floor", "is_derivation"),
    "reliance": ("sure", "early"),
    "seals": ("least_seals", "least_shows"),
    "moves": ("moved", "least_move", "Move"),
    "makings": ("safe_sequences", "first_safe", "Sequence"),
}

# The methods and properties that the interface lists for classes.
LISTED = {
    "Family": ("of", "order", "bases", "birth", "class_values", "own_keys", "grade", "body", "found", "after", "promise", "all_keys",
               "promised", "__len__", "__contains__", "__str__", "__eq__", "extended"),
    "Extension": ("old_order", "heir_text"),
    "Watcher": ("note",), "Tally": ("note", "count_of", "__str__"), "Places": ("note", "listed"), "Report": ("note",),
    "Maker": ("limit", "change", "watch", "make", "use", "current_shared", "current_own", "current_class", "event_count", "walk"),
    "Run": ("old_steps",),
    "Ends": ("__len__", "__iter__", "listed", "__contains__", "steps_to", "picks_to"),
    "Verdict": ("__bool__", "__str__"), "Move": ("__len__",), "Sequence": ("__bool__", "__len__"),
}

# Sources that break a rule, with the rule.
BROKEN = (
    ("import math\n", "L2"), ("from os import path\n", "L2"), ("from .texts import is_word\n", "L2"),
    ("from earlyfields.texts import *\n", "L2"), ("from math import sqrt\n", "L2"), ("from heapq import heappop as pop\n", "L2"),
    ("from itertools import permutations\n", "L2"), ("from heapq import heappop\ndef f(a):\n    return sorted(a, key=heappop)\n", "L2"),
    ("def f(a):\n    return any(b for b in a)\n", "L7"), ("def f(a):\n    a.sort()\n", "L25"),
    ("NORTH = 0\nfrom earlyfields.texts import is_word\n", "L2"), ("def f():\n    from earlyfields.texts import is_word\n", "L2"),
    ("A, B = 0, 1\n", "L3"), ("A = len([])\n", "L3"), ("if True:\n    A = 1\n", "L3"), ("A = 1\nA = 2\n", "L15"),
    ("def f(x=len([])):\n    return x\n", "L4"), ("@staticmethod\ndef f():\n    return 1\n", "L4"),
    ("class A:\n    def __hash__(self):\n        return 1\n", "L5"), ("class A:\n    x = len([])\n", "L5"),
    ("def f():\n    global a\n    a = 1\n", "L6"), ("async def f():\n    return 1\n", "L6"),
    ("A = 1.5\n", "L7"), ("def f(a):\n    return a / 2\n", "L7"), ("def f(a):\n    return chr(a)\n", "L8"),
    ("def f(a):\n    print(a)\n", "L8"), ("def f(a):\n" + "    a = 1\n" * 40, "L10"), ("#" * 121 + "\n", "L10"),
    ("#\n" * 400, "L10"), ("def f(__a):\n    return 1\n", "L12"), ("def f():\n    _wall = 1\n", "L12"),
    ("def f():\n    _record = 1\n", "L12"), ("# \u00e4\n", "L14"), ("A =\t1\n", "L14"), ("def f(len):\n    return 1\n", "L15"),
    ("def f():\n    next = 1\n", "L15"), ("class A:\n    def f(self):\n        A = 1\n", "L15"), ("A = 'an enum of'\n", "L17"),
    ("def f(a):\n    return a.open\n", "L17"), ("def f(a):\n    raise a\n", "L19"),
    ("def f(a):\n    try:\n        return a[0]\n    except TypeError:\n        return 1\n", "L19"),
    ("def f(a, b):\n    return a is b\n", "L20"), ("def f(a: int):\n    return a\n", "L21"), ("def f(a) -> int:\n    return a\n", "L21"),
    ("def f(a):\n    return int(a, base=2)\n", "L22"), ("def f(a):\n    return enumerate(a)\n", "L23"),
    ("def f(a):\n    b = a.items()\n    return b\n", "L23"), ("def f(a):\n    return {1, a}\n", "L24"),
    ("def f(a):\n    return a.encode()\n", "L25"), ("class A:\n    def __init__(self):\n        self.values = 1\n", "L26"),
    ("class A:\n    def encode(self):\n        return 1\n", "L26"), ("A = 'a %'\n", "L27"), ("A = 'a\\x41'\n", "L27"),
    ("A = '__odd__'\n", "L27"), ("def f(a, b):\n    return a ** b\n", "L27"),
    ("class A:\n    def __init__(self):\n        return None\n", "L28"), ("class A:\n    def __len__(self):\n        return self.n\n", "L28"),
    ("class A:\n    @property\n    def n(self):\n        self.m = 1\n        return 1\n", "L5"),
    ("class A:\n    @property\n    def n(self):\n        self.rows[0] = 1\n        return 1\n", "L5"),
    ("class A:\n    @property\n    def n(self, m):\n        return m\n", "L5"),
    ("class A:\n    def f(self):\n        return super(A, self).f()\n", "L5"), ("class A:\n    def f(self):\n        return super().n\n", "L5"),
    ("class A:\n    def f(self):\n        return super().__init__()\n", "L5"), ("def f(a):\n    return super().f()\n", "L5"),
    ("def f(a):\n    try:\n        yield a\n    except KeyError:\n        pass\n", "L23"), ("def f(a):\n    yield a\n    return 1\n", "L23"),
    ("def f(a):\n    b = yield a\n", "L23"), ("class A:\n    def __len__(self):\n        yield 1\n", "L23"),
    ("class A:\n    def split(self):\n        yield 1\n", "L23"),
)


def own_methods():
    """The names of all methods of the package."""
    return {node.name for tree in TREES.values() for holder in language.classes_in(tree)
            for node in holder.body if isinstance(node, ast.FunctionDef)}


def properties():
    """The names of all properties."""
    return {language.property_of(node) for tree in TREES.values() for node in language.functions_in(tree)} - {None}


def generators():
    """The names of all generators."""
    return {node.name for tree in TREES.values() for node in language.functions_in(tree)
            if any(isinstance(row, (ast.Yield, ast.YieldFrom)) for row in ast.walk(node))}


def stored_attributes():
    """The names of all attributes that the package assigns."""
    return {node.attr for tree in TREES.values() for node in ast.walk(tree)
            if isinstance(node, ast.Attribute) and isinstance(node.ctx, ast.Store)}


def class_values():
    """The names of all class values."""
    return {target.id for tree in TREES.values() for holder in language.classes_in(tree)
            for node in holder.body if isinstance(node, ast.Assign) for target in node.targets}


def imported_files(stem):
    """The files of the package that a file imports from, with the names."""
    rows = []
    for node in TREES[stem].body:
        if isinstance(node, ast.ImportFrom) and node.module.startswith("earlyfields."):
            rows.append((node.module.partition(".")[2], [row.name for row in node.names]))
    return rows


class FilesTest(unittest.TestCase):
    def test_the_folder_holds_python_files_with_plain_names_only(self):
        for path in FILES:
            self.assertTrue(path.is_file(), path)
            self.assertRegex(path.name, r"^(__init__|__main__|[a-z][a-z0-9_]*)\.py$")
            self.assertNotRegex(path.stem, r"^(law_.*|tests?|testing|test_.*|site|conftest|sitecustomize|usercustomize)$")
            self.assertNotIn(path.stem, dir(builtins) + ["heapq", "math", "itertools", "collections", "mro", "elements"])
        self.assertTrue((FOLDER / "__init__.py").is_file())
        self.assertLessEqual(len(FILES), 100)

    def test_no_file_breaks_a_rule(self):
        own = own_methods()
        for stem, source in SOURCES.items():
            self.assertEqual(language.complaints(source, own), [], stem)

    def test_the_checks_find_what_breaks_a_rule(self):
        for source, rule in BROKEN:
            rules = [why.split()[:2] for line, why in language.complaints(source)]
            self.assertTrue(any(rule in row for row in rules), (source, rule, rules))

    def test_python_gives_no_warning(self):
        with warnings.catch_warnings():
            warnings.simplefilter("error")
            for stem, source in SOURCES.items():
                compile(source, stem, "exec")


class PackageTest(unittest.TestCase):
    def test_the_interface_is_defined_where_it_is_listed(self):
        for stem, names in INTERFACE.items():
            defined = [node.name for node in TREES[stem].body if isinstance(node, (ast.FunctionDef, ast.ClassDef))]
            for name in names:
                self.assertIn(name, defined)

    def test_methods_are_defined_in_the_class_itself(self):
        bodies = {holder.name: [node.name for node in holder.body if isinstance(node, ast.FunctionDef)]
                  for tree in TREES.values() for holder in language.classes_in(tree)}
        for name, methods in LISTED.items():
            self.assertLessEqual(set(methods), set(bodies[name]), name)

    def test_names_are_imported_from_the_file_that_defines_them(self):
        for stem in TREES:
            for source, names in imported_files(stem):
                defined = [node.name for node in TREES[source].body if isinstance(node, (ast.FunctionDef, ast.ClassDef))]
                defined += [node.targets[0].id for node in TREES[source].body if isinstance(node, ast.Assign)]
                for name in names:
                    self.assertIn(name, defined, (stem, source))

    def test_every_import_is_used(self):
        for stem, tree in TREES.items():
            used = {node.id for node in ast.walk(tree) if isinstance(node, ast.Name)}
            for source, names in imported_files(stem):
                self.assertLessEqual(set(names), used, stem)

    def test_no_two_files_import_from_each_other(self):
        done = set()
        while len(done) < len(TREES):
            ready = [stem for stem in TREES if stem not in done and all(row[0] in done for row in imported_files(stem))]
            self.assertNotEqual(ready, [])
            done.update(ready)

    def test_attributes_that_are_read_are_assigned(self):
        known = stored_attributes() | own_methods() | class_values() | language.METHODS | {"setter"}
        for stem, tree in TREES.items():
            for node in ast.walk(tree):
                if isinstance(node, ast.Attribute):
                    self.assertIn(node.attr, known, stem)

    def test_no_name_is_a_method_and_an_attribute(self):
        self.assertEqual(own_methods() & stored_attributes() - properties(), set())
        self.assertEqual(class_values() & (own_methods() | stored_attributes()), set())

    def test_a_property_has_a_name_of_its_own(self):
        defined = [node.name for tree in TREES.values() for node in language.functions_in(tree) if language.property_of(node) is None]
        self.assertEqual(properties() & (set(defined) | class_values() | language.METHODS), set())
        # The only one that is assigned, by `self.limit` in its own class.
        self.assertEqual(properties() & stored_attributes(), {"limit"})

    def test_a_generator_has_a_name_of_its_own_and_is_iterated_at_once(self):
        defined = [node.name for tree in TREES.values() for node in language.functions_in(tree)]
        for name in generators():
            self.assertEqual(defined.count(name), 1)
            used = [node for tree in TREES.values() for node in ast.walk(tree) if getattr(node, "attr", getattr(node, "id", None)) == name]
            self.assertEqual(used, [], "until one is used, there is nothing to check")

    def test_super_is_called_in_no_method_that_is_read_off_a_class(self):
        classes = {holder.name for tree in TREES.values() for holder in language.classes_in(tree)}
        read = {node.attr for tree in TREES.values() for node in ast.walk(tree)
                if isinstance(node, ast.Attribute) and isinstance(node.value, ast.Name) and node.value.id in classes}
        self.assertEqual(read & own_methods() - {"of"}, {"__init__"})
        holders = {node.value.id for tree in TREES.values() for node in ast.walk(tree)
                   if isinstance(node, ast.Attribute) and node.attr == "__init__" and isinstance(node.value, ast.Name)}
        self.assertEqual(holders, {"Family"})
        self.assertNotIn("super(", ast.unparse(TREES["families"]))
