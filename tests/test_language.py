"""The rules of the language, and of the interface, that a look at the files shows."""

import ast
import builtins
import pathlib
import re
import unittest

from loosemirrors.boards import Board
from loosemirrors.books import Book
from loosemirrors.desk import Desk
from loosemirrors.drawings import Drawing, draw
from loosemirrors.kinds import kind
from loosemirrors.motions import table
from loosemirrors.ratios import Ratio
from loosemirrors.scripts import Script

FOLDER = pathlib.Path(__file__).resolve().parent.parent / "loosemirrors"

# Of each file: each class of the interface, and the methods that its body defines.
METHODS = {
    "ratios": {"Ratio": ("of", "divided", "__repr__", "__eq__", "__lt__", "__le__", "__gt__", "__ge__", "__neg__",
                         "__add__", "__radd__", "__sub__", "__rsub__", "__mul__", "__rmul__")},
    "scripts": {"Script": ("times", "__len__", "__mul__", "__invert__", "__repr__", "__eq__")},
    "books": {"Book": ("told", "without", "__len__", "__contains__", "__getitem__", "__iter__", "__eq__")},
    "motions": {"Motion": ("times", "at", "__len__", "__mul__", "__invert__", "__eq__")},
    "drawings": {"Drawing": ("led", "__getitem__", "__iter__", "__eq__")},
    "boards": {"Board": ("put", "step", "lay", "wipe", "kind", "judged", "undo", "redo", "trial", "keep", "tried", "copy",
                         "__len__", "__contains__", "__eq__")},
    "desk": {"Desk": ("say",)},
}

# Of each file: the functions of the interface, with their parameters.
FUNCTIONS = {
    "motions": {"table": ["book", "script"]},
    "drawings": {"draw": ["book"]},
    "kinds": {"kind": ["book", "script"], "shows_kind": ["book", "script", "value"], "same": ["book", "one", "other"],
              "shows_same": ["book", "one", "other", "value"]},
    "claims": {"judged": ["book", "claim"], "shows_judged": ["book", "claim", "value"]},
    "least": {"nothings": ["book", "names", "most"], "shortest": ["book", "names", "script"],
              "shows_shortest": ["book", "names", "script", "value"]},
    "looks": {"left": ["book", "names", "most", "looks"], "look": ["book", "names", "most", "looks"],
              "shows_look": ["book", "names", "most", "looks", "value"]},
    "needing": {"loosened": ["book", "name"], "needed": ["book", "claim"], "core": ["book", "claim"]},
    "choosing": {"cheapest": ["book", "offers", "wishes"]},
    "journals": {"journal": ["board"], "read_journal": ["text"]},
}

BUILTINS = (
    "len range enumerate zip min max sum abs sorted reversed int str bool list tuple dict set isinstance ord repr any all "
    "divmod ValueError TypeError KeyError IndexError NotImplemented property staticmethod"
).split()

LIBRARY = {
    "math": ("gcd", "lcm", "isqrt", "comb", "perm", "factorial"),
    "itertools": ("product", "combinations", "permutations"),
}
BARRED_WORDS = re.compile(
    r"\b(register|mro|elements|open|input|law|print|eval|exec|globals|locals|float|type|typing|enum|Enum|Flag|Generic)\b"
    r"|_wall|Meta|metaclass=|dataclass|overload|contextmanager"
)
BARRED_NODES = (ast.Global, ast.AsyncFunctionDef, ast.Await, ast.Div, ast.Import, ast.Yield, ast.YieldFrom, ast.Lambda,
                ast.GeneratorExp, ast.Set, ast.NamedExpr, ast.Match)


def trees():
    return {path.stem: ast.parse(path.read_text()) for path in sorted(FOLDER.glob("*.py"))}


def bound(tree):
    """What a file defines: names of functions, classes and values."""
    names = [node.name for node in tree.body if isinstance(node, (ast.FunctionDef, ast.ClassDef))]
    for node in tree.body:
        if isinstance(node, ast.Assign):
            names.extend(target.id for target in node.targets)
    return names


def is_plain(part):
    """Whether a part of a file plainly is a number or a string."""
    if isinstance(part, ast.Call):
        return part.func.id in ("int", "str", "len")
    return isinstance(part, ast.Constant)


class Files(unittest.TestCase):
    def test_the_folder_holds_plain_files_alone(self):
        self.assertTrue((FOLDER / "__init__.py").is_file())
        for path in FOLDER.iterdir():
            if path.name != "__pycache__":
                self.assertRegex(path.name, r"^(__init__|[a-z][a-z0-9_]*)\.py$")

    def test_sizes_and_characters(self):
        for path in FOLDER.glob("*.py"):
            with self.subTest(path=path.name):
                text = path.read_text()
                lines = text.splitlines()
                self.assertLessEqual(len(lines), 399)
                self.assertLessEqual(max(len(line) for line in lines), 120)
                self.assertRegex(text, r"\A[ -~\n]*\Z")

    def test_functions_have_at_most_40_lines(self):
        for name, tree in trees().items():
            for node in ast.walk(tree):
                if isinstance(node, ast.FunctionDef):
                    with self.subTest(file=name, function=node.name):
                        self.assertLessEqual(node.end_lineno - node.lineno + 1, 40)


class Words(unittest.TestCase):
    def test_imports_name_the_file_that_defines(self):
        found = trees()
        for name, tree in found.items():
            for node in ast.walk(tree):
                if isinstance(node, ast.ImportFrom):
                    package, _, module = node.module.partition(".")
                    there = bound(found[module]) if package == "loosemirrors" else LIBRARY[package]
                    for alias in node.names:
                        with self.subTest(file=name, imported=alias.name):
                            self.assertIsNone(alias.asname)
                            self.assertIn(alias.name, there)

    def test_nothing_that_is_barred(self):
        for name, tree in trees().items():
            with self.subTest(file=name):
                self.assertNotRegex((FOLDER / f"{name}.py").read_text(), BARRED_WORDS)
                for node in ast.walk(tree):
                    self.assertNotIsInstance(node, BARRED_NODES)
                    if isinstance(node, ast.Constant):
                        self.assertNotIsInstance(node.value, (float, complex, bytes))

    def test_ends_of_blocks_do_plain_things_alone(self):
        """Rows of __exit__ are assignments of attributes, and tests of them by is None."""
        for file, tree in trees().items():
            for function in ast.walk(tree):
                if isinstance(function, ast.FunctionDef) and function.name == "__exit__":
                    with self.subTest(file=file):
                        for node in ast.walk(function):
                            self.assertNotIsInstance(node, (ast.Call, ast.BinOp, ast.Subscript, ast.Return, ast.Raise))
                            if isinstance(node, ast.Compare):
                                self.assertEqual([type(sign) in (ast.Is, ast.IsNot) for sign in node.ops], [True])

    def test_no_name_is_a_method_and_an_attribute(self):
        """No attribute of an object has the name of a method of any class."""
        methods, attributes = set(), set()
        for tree in trees().values():
            for node in ast.walk(tree):
                if isinstance(node, ast.ClassDef):
                    methods |= {part.name for part in node.body if isinstance(part, ast.FunctionDef)}
                if isinstance(node, ast.Attribute) and isinstance(node.ctx, ast.Store):
                    attributes.add(node.attr)
        self.assertEqual(methods & attributes, set())

    def test_no_name_has_a_second_meaning(self):
        """No parameter or variable is called as an import, a class or a builtin; no other builtins are read."""
        for file, tree in trees().items():
            taken = [alias.name for node in tree.body if isinstance(node, ast.ImportFrom) for alias in node.names]
            taken += [node.name for node in tree.body if isinstance(node, ast.ClassDef)]
            taken += [name for name in dir(builtins) if name != "_"]
            known = taken + bound(tree)
            for function in [node for node in ast.walk(tree) if isinstance(node, ast.FunctionDef)]:
                told = [node.arg for node in ast.walk(function) if isinstance(node, ast.arg)]
                names = [node for node in ast.walk(function) if isinstance(node, ast.Name)]
                told += [node.id for node in names if isinstance(node.ctx, ast.Store)]
                told += [node.name for node in ast.walk(function) if isinstance(node, ast.ExceptHandler) and node.name]
                for name in told:
                    with self.subTest(file=file, function=function.name, name=name):
                        self.assertNotIn(name, taken)
                for node in names:
                    if node.id not in told:
                        with self.subTest(file=file, function=function.name, name=node.id):
                            self.assertIn(node.id, known)
                            if node.id in dir(builtins):
                                self.assertIn(node.id, BUILTINS)

    def test_plain_arguments_where_order_matters(self):
        """Beside a class with an order, sorted, min and max take plain numbers or strings alone."""
        for file, tree in trees().items():
            calls = [node for node in ast.walk(tree) if isinstance(node, ast.Call) and isinstance(node.func, ast.Name)]
            for call in [node for node in calls if node.func.id in ("sorted", "min", "max")]:
                with self.subTest(file=file, line=call.lineno):
                    parts = [part.elt if isinstance(part, ast.ListComp) else part for part in call.args]
                    self.assertTrue(any(is_plain(part) for part in parts))

    def test_no_two_files_import_from_each_other(self):
        found = {name: [node.module.split(".")[1] for node in tree.body
                        if isinstance(node, ast.ImportFrom) and node.module.startswith("loosemirrors.")]
                 for name, tree in trees().items()}
        while found:
            free = [name for name, imported in found.items() if not [other for other in imported if other in found]]
            self.assertNotEqual(free, [], found)
            found = {name: found[name] for name in found if name not in free}


class Interface(unittest.TestCase):
    def test_functions_stand_in_their_files(self):
        found = trees()
        for name, functions in FUNCTIONS.items():
            told = {node.name: [arg.arg for arg in node.args.args] for node in found[name].body
                    if isinstance(node, ast.FunctionDef)}
            for function, parameters in functions.items():
                with self.subTest(file=name, function=function):
                    self.assertEqual(told[function], parameters)

    def test_classes_and_methods_stand_in_their_files(self):
        found = trees()
        for name, classes in METHODS.items():
            bodies = {node.name: node.body for node in found[name].body if isinstance(node, ast.ClassDef)}
            for told, methods in classes.items():
                own = [node.name for node in bodies[told] if isinstance(node, ast.FunctionDef)]
                for method in methods:
                    with self.subTest(file=name, method=method):
                        self.assertIn(method, own)

    def test_attributes_are_set_when_an_object_is_created(self):
        for made in (Ratio(1), Ratio(2, -4), Ratio.of("1/2"), Ratio(1) + 1, -Ratio(1), Ratio(1).divided(2)):
            self.assertEqual(sorted(vars(made)), ["number", "text", "under"])
        one = Script("a b b")
        for made in (one, Script(""), one * one, ~one, one.times(2), one.plain):
            self.assertEqual(sorted(vars(made)), ["plain", "steps", "text"])
        book = Book("mirror a\npeg p")
        for made in (book, book.told("peg q"), book.without("p")):
            self.assertLessEqual({"text", "names", "mirrors", "pegs", "loose"}, set(vars(made)))
        drawing = Drawing(book, ((1, 0, 3), (0, 0)))
        for made in (drawing, draw(book), kind(book, Script("a p"))[1]):
            self.assertLessEqual({"book", "rows"}, set(vars(made)))
        motion = table(book, Script("a p"))
        for made in (motion, motion * motion, ~motion, motion.times(3)):
            self.assertLessEqual({"book", "over", "sign", "powers", "terms"}, set(vars(made)))
        board = Board(drawing)
        board.step("a")
        for made in (board, board.copy(), Desk("peg p\nrow p 1 1\ndeeds").board):
            self.assertLessEqual({"first", "drawing", "row", "dots", "done"}, set(vars(made)))
        self.assertIn("board", vars(Desk("peg p\nrow p 1 1\ndeeds")))


if __name__ == "__main__":
    unittest.main()
