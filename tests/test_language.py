"""The form of the package's files, as far as a look at their syntax tells it (rules L1 to L28)."""

import ast
import builtins
import pathlib
import re
import unittest

ROOT = pathlib.Path(__file__).resolve().parent.parent / "unseenheap"
INTERFACE = {
    "errors": (
        "HeapError NoText TooDeep NoProgram NoNumber NoRow NoClass NoCode NoRule NoWord NoRoom NoSort NoItems NoHandle"
        " NoThing NoPlace NoLayout BadText BadNames NoMoments BadCode BadUnit NotLet BadLine BadRoom HeapFull BadImage"
    ),
    "lexing": "words",
    "trees": "is_program depth",
    "reading": "read",
    "showing": "show",
    "names": "name_faults faults_by_line meanings names called_anew are_alike",
    "plain": "Plain",
    "words": "word tag_of payload_of",
    "compiling": "compiled",
    "units": "Code Unit is_row takes lays fields method",
    "examine": "refused refutal is_let is_paper is_refutal table stretch",
    "rooms": "Room",
    "heaps": "Heap",
    "layouts": "Layout meaning_of is_sound broken",
    "images": "restored",
    "machine": "Machine",
    "told": "told",
    "optimise": "rules_at ruled optimised saved elder_rows",
    "codetext": "unit_text read_unit",
    "revived": "resumed",
}
METHODS_LISTED = {
    ("plain", "Plain"): "run ticks is_over lines ends made",
    ("machine", "Machine"): "run ticks is_over lines ends made meaning counts layout image copy",
    ("heaps", "Heap"): (
        "make hold size number read gather turn steps whole filled drop write item meaning sort_of image same sweep"
        " counts living reached way holders layout"
    ),
}
LIBRARY = {
    "heapq": "heappush heappop heapify heapreplace heappushpop", "math": "gcd lcm isqrt comb perm factorial",
    "itertools": "product combinations permutations chain accumulate pairwise islice zip_longest",
    "collections": "defaultdict",
}
BUILTINS = (
    "len range enumerate zip min max sum abs sorted reversed int str bool list tuple dict set frozenset isinstance ord"
    " repr any all divmod pow getattr hasattr setattr iter next map super property staticmethod classmethod"
    " Exception ValueError TypeError KeyError IndexError LookupError ZeroDivisionError ArithmeticError OverflowError"
    " RuntimeError NotImplementedError AttributeError StopIteration NotImplemented"
).split()
METHODS = (
    "append clear copy count endswith extend find get index insert isalnum isalpha isdigit islower isspace isupper items"
    " join keys ljust lower lstrip partition pop remove replace reverse rfind rjust rpartition rsplit rstrip setdefault"
    " split splitlines startswith strip update upper values zfill bit_length title capitalize swapcase casefold center"
    " expandtabs removeprefix removesuffix rindex isascii isdecimal isnumeric istitle isidentifier isprintable translate"
    " sort add discard encode decode hex format __init__"
).split()
SPECIAL = (
    "init eq repr str len enter exit call iter lt le gt ge ne add sub mul floordiv mod pow and or xor lshift rshift neg"
    " pos invert abs bool contains getitem setitem"
).split()
STATEMENTS = (
    ast.Assign, ast.AugAssign, ast.AnnAssign, ast.If, ast.While, ast.For, ast.Return, ast.Break, ast.Continue, ast.Pass,
    ast.Raise, ast.Assert, ast.Delete, ast.Nonlocal, ast.Match, ast.With, ast.Try, ast.Expr, ast.FunctionDef, ast.ClassDef,
    ast.ImportFrom,
)
BARRED_NAMES = (
    "register mro elements open input law version_info with_traceback add_note attrgetter breakpoint builtins compile"
    " copyright credits delattr dir eval exec exit gc globals help id importlib license locals methodcaller os quit type"
    " vars sys"
).split()
BARRED_WORDS = (
    "typing typing_extensions enum Enum IntEnum StrEnum Flag IntFlag Generic Protocol ABC ABCMeta namedtuple NamedTuple"
    " TypedDict TYPE_CHECKING abstractmethod"
).split()


def sources():
    """The files of the package with their texts and trees."""
    return {path.stem: (path.read_text("utf-8"), ast.parse(path.read_text("utf-8"))) for path in sorted(ROOT.glob("*.py"))}


def bound(tree):
    """The names that a module binds, as often as it does."""
    found = []
    for node in tree.body:
        if isinstance(node, (ast.FunctionDef, ast.ClassDef)):
            found.append(node.name)
        elif isinstance(node, ast.ImportFrom):
            found.extend(alias.asname or alias.name for alias in node.names)
        elif isinstance(node, ast.Assign):
            found.extend(target.id for target in node.targets)
    return found


def local_names(tree):
    """All names that are parameters or are assigned anywhere."""
    for node in ast.walk(tree):
        if isinstance(node, ast.Name) and not isinstance(node.ctx, ast.Load):
            yield node.id
        elif isinstance(node, ast.arg):
            yield node.arg
        elif isinstance(node, ast.ExceptHandler) and node.name:
            yield node.name


def constants(tree):
    """All literals but docstrings."""
    docs = set()
    for node in ast.walk(tree):
        if isinstance(node, (ast.Module, ast.FunctionDef, ast.ClassDef)) and ast.get_docstring(node) is not None:
            docs.add(id(node.body[0].value))
    return [node.value for node in ast.walk(tree) if isinstance(node, ast.Constant) and id(node) not in docs]


class Language(unittest.TestCase):
    def setUp(self):
        self.files = sources()
        self.own_methods = {
            inner.name for _, tree in self.files.values() for node in ast.walk(tree) if isinstance(node, ast.ClassDef)
            for inner in node.body if isinstance(inner, ast.FunctionDef)
        }

    def test_files(self):
        for path in ROOT.rglob("*"):
            if "__pycache__" not in path.parts:
                self.assertRegex(path.name, r"^[a-z0-9_]+\.py$")
        self.assertIn("__init__", self.files)

    def test_interface_is_defined_where_it_is_listed(self):
        for name, listed in INTERFACE.items():
            defined = [node.name for node in self.files[name][1].body if isinstance(node, (ast.FunctionDef, ast.ClassDef))]
            for word in listed.split():
                self.assertIn(word, defined, name)

    def test_methods_stand_in_the_class_that_lists_them(self):
        for (name, listing), listed in METHODS_LISTED.items():
            found = [node for node in self.files[name][1].body if isinstance(node, ast.ClassDef) and node.name == listing]
            defined = [node.name for node in found[0].body if isinstance(node, ast.FunctionDef)]
            for word in listed.split():
                self.assertIn(word, defined, name)

    def test_sizes_and_signs(self):
        for name, (text, tree) in self.files.items():
            lines = text.split("\n")
            self.assertLessEqual(len(lines) - 1, 399, name)
            for at, line in enumerate(lines, start=1):
                self.assertLessEqual(len(line), 120, f"{name}:{at}")
                self.assertRegex(line, r"^[ -~]*$", f"{name}:{at}")
            for node in ast.walk(tree):
                if isinstance(node, ast.FunctionDef):
                    self.assertLessEqual(node.end_lineno - node.lineno + 1, 40, f"{name}:{node.name}")

    def test_imports(self):
        edges = {}
        for name, (_, tree) in self.files.items():
            edges[name] = []
            for node in ast.walk(tree):
                self.assertNotIsInstance(node, ast.Import, name)
                if not isinstance(node, ast.ImportFrom):
                    continue
                self.assertIn(node, tree.body, name)
                self.assertEqual(node.level, 0, name)
                package, _, module = node.module.partition(".")
                for alias in node.names:
                    if package == "unseenheap":
                        self.assertIn(alias.name, bound(self.files[module][1]), name)
                        self.assertFalse(any(
                            isinstance(other, ast.ImportFrom) and alias.name in [a.name for a in other.names]
                            for other in self.files[module][1].body
                        ), f"{name}: {alias.name} is not defined in {module}")
                        edges[name].append(module)
                    else:
                        self.assertIn(alias.name, LIBRARY[node.module].split(), name)
                        self.assertIsNone(alias.asname, name)
        for name in edges:
            self.assertNotIn(name, reached(edges, edges[name]), "files import from each other")

    def test_imports_are_used(self):
        for name, (_, tree) in self.files.items():
            used = {node.id for node in ast.walk(tree) if isinstance(node, ast.Name)}
            for node in tree.body:
                if isinstance(node, ast.ImportFrom):
                    for alias in node.names:
                        self.assertIn(alias.asname or alias.name, used, name)

    def test_module_level(self):
        for name, (_, tree) in self.files.items():
            for at, node in enumerate(tree.body):
                if at == 0 and ast.get_docstring(tree) is not None:
                    continue
                self.assertIsInstance(node, (ast.ImportFrom, ast.FunctionDef, ast.ClassDef, ast.Assign), name)
                if isinstance(node, ast.Assign):
                    self.assertEqual([type(target) for target in node.targets], [ast.Name], name)
                    for inner in ast.walk(node.value):
                        self.assertNotIsInstance(inner, (ast.Call, ast.Attribute, ast.ListComp, ast.DictComp, ast.Set), name)
            self.assertEqual(len(bound(tree)), len(set(bound(tree))), name)

    def test_statements_and_values(self):
        for name, (text, tree) in self.files.items():
            for node in ast.walk(tree):
                if isinstance(node, ast.stmt):
                    self.assertIsInstance(node, STATEMENTS, f"{name}:{node.lineno}")
                self.assertNotIsInstance(node, (ast.Div, ast.MatMult, ast.Await, ast.AsyncFor), name)
                if isinstance(node, ast.FunctionDef):
                    self.assertTrue(all(isinstance(d, ast.Name) or isinstance(d, ast.Attribute) for d in node.decorator_list))
                if isinstance(node, ast.Compare) and any(isinstance(op, (ast.Is, ast.IsNot)) for op in node.ops):
                    self.assertIsInstance(node.comparators[0], ast.Constant, f"{name}:{node.lineno}")
                if isinstance(node, ast.ExceptHandler):
                    self.assertIsNotNone(node.type, f"{name}:{node.lineno}")
            for worth in constants(tree):
                self.assertNotIsInstance(worth, (float, complex), name)
                if isinstance(worth, str):
                    self.assertNotIn(chr(37), worth, name)
            for escape in re.findall(r"\\(.)", text):
                self.assertIn(escape, "nt\\\"'x", name)

    def test_names(self):
        for name, (text, tree) in self.files.items():
            known = set(bound(tree)) | set(local_names(tree)) | set(BUILTINS)
            known |= {node.name for node in ast.walk(tree) if isinstance(node, ast.FunctionDef)}
            classes = {node.name for node in tree.body if isinstance(node, ast.ClassDef)}
            imported = {a.asname or a.name for node in tree.body if isinstance(node, ast.ImportFrom) for a in node.names}
            for node in ast.walk(tree):
                if isinstance(node, ast.Name):
                    self.assertIn(node.id, known, f"{name}:{node.lineno}")
            for word in [*bound(tree), *local_names(tree)]:
                self.assertFalse(hasattr(builtins, word), f"{name}: {word}")
                self.assertNotIn(word, BARRED_NAMES, name)
                self.assertRegex(word, r"^(_|_?[A-Za-z][A-Za-z0-9_]*)$", name)
            for word in local_names(tree):
                self.assertNotIn(word, classes | imported, name)
            for word in re.findall(r"\w+", re.sub(r'"""[\s\S]*?"""|#.*', "", text)):
                self.assertNotIn(word, BARRED_WORDS, name)
            self.assertNotRegex(text, "dataclass|overload|contextmanager|_wall|_WallAttr", name)

    def test_methods(self):
        for name, (_, tree) in self.files.items():
            for node in ast.walk(tree):
                if isinstance(node, ast.Call) and isinstance(node.func, ast.Attribute):
                    self.assertIn(node.func.attr, self.own_methods | set(METHODS), f"{name}:{node.lineno}")
                if isinstance(node, ast.ClassDef):
                    for inner in node.body:
                        if isinstance(inner, ast.FunctionDef) and inner.name.startswith("__"):
                            self.assertIn(inner.name.strip("_"), SPECIAL, name)


    def test_attributes_and_methods_are_unlike(self):
        stored, read = set(), set()
        for _, tree in self.files.values():
            for node in ast.walk(tree):
                if isinstance(node, ast.Attribute):
                    (read if isinstance(node.ctx, ast.Load) else stored).add(node.attr)
        self.assertEqual(stored & self.own_methods, set())
        self.assertEqual(read - stored - self.own_methods - set(METHODS), set())
        self.assertEqual(stored & set("items keys values pop update append clear extend insert remove reverse sort args format".split()), set())

    def test_what_classes_with_eq_bar(self):
        """Where a class has __eq__, no generator expressions stand in calls, and lists are sorted anew."""
        for name, (_, tree) in self.files.items():
            for node in ast.walk(tree):
                self.assertNotIsInstance(node, (ast.GeneratorExp, ast.Yield, ast.YieldFrom, ast.Lambda), f"{name}")
                if isinstance(node, ast.Call) and isinstance(node.func, ast.Attribute):
                    self.assertNotEqual(node.func.attr, "sort", f"{name}:{node.lineno}")

    def test_locals_have_no_name_of_the_files_own(self):
        for name, (_, tree) in self.files.items():
            for node in ast.walk(tree):
                if isinstance(node, ast.FunctionDef):
                    self.assertEqual(set(local_names(node)) & set(bound(tree)), set(), f"{name}:{node.name}")


def reached(edges, begin):
    """All files that files import from, and so on."""
    found = set()
    waiting = list(begin)
    while waiting:
        name = waiting.pop()
        if name not in found:
            found.add(name)
            waiting.extend(edges[name])
    return found


if __name__ == "__main__":
    unittest.main()
