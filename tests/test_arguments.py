"""Each function, class and method of the interface, called by the names of its arguments and by position."""

import inspect
import unittest

from loosemirrors import (
    boards, books, choosing, claims, desk, drawings, errors, journals, kinds, least, looks, motions, needing, ratios, scripts,
)
from loosemirrors.books import Book
from loosemirrors.boards import Board
from loosemirrors.drawings import Drawing
from loosemirrors.ratios import Ratio
from loosemirrors.scripts import Script
from tests.shelf import CROSS, KITE

PLAIN = ((0, 0), (1, 0, 0), (0, 1, 0), (1, 1, 0))
JOURNAL = "peg p\nrow p 1 1\ndeeds"

# Of each module: its classes with the parameters of what creates them and of their methods, and its functions.
CLASSES = {
    ratios: {"Ratio": {"": "number under", "of": "text", "divided": "other"}},
    scripts: {"Script": {"": "text", "times": "many"}},
    books: {"Book": {"": "text", "told": "line", "without": "name"}},
    motions: {"Motion": {"times": "many", "at": "drawing dot"}},
    drawings: {"Drawing": {"": "book rows", "led": "script dot"}},
    boards: {"Board": {"": "drawing", "put": "dot", "step": "name", "lay": "line row", "wipe": "number", "kind": "",
                       "judged": "claim", "undo": "", "redo": "", "trial": "", "keep": "", "tried": "look keep",
                       "copy": ""}},
    desk: {"Desk": {"": "text", "say": "line"}},
}
FUNCTIONS = {
    motions: {"table": "book script"},
    drawings: {"draw": "book"},
    kinds: {"kind": "book script", "shows_kind": "book script value", "same": "book one other",
            "shows_same": "book one other value"},
    claims: {"judged": "book claim", "shows_judged": "book claim value"},
    least: {"nothings": "book names most", "shortest": "book names script",
            "shows_shortest": "book names script value"},
    looks: {"left": "book names most looks", "look": "book names most looks", "shows_look": "book names most looks value"},
    needing: {"loosened": "book name", "needed": "book claim", "core": "book claim"},
    choosing: {"cheapest": "book offers wishes"},
    journals: {"journal": "board", "read_journal": "text"},
}

ERRORS = """MirrorError BadRatio BadText BadBook NoName BadLine Used Few BadRows BadScript BadDot Long BadNumber OtherBook
BadClaim BadNames BadLooks Nothing Loose Needed NotSure BadOffers BadWishes Full NoDot NothingToUndo NothingToRedo NoTrial
BadJournal BadSay""".split()


def calls():
    """Of each function, class and method something that is called, and its arguments by names, in sequence."""
    book, script, drawing = Book(CROSS), Script("a b"), Drawing(Book(CROSS), PLAIN)
    motion = motions.table(book, script)
    board = Board(drawing)
    board.put((1, 2))
    seen = ((drawing, (1, 0), (-1, 0)),)
    offers = (("c", "mirror c along a through p", 2),)
    wishes = (("mirror c is a", "always"),)
    return [
        (Ratio, {"number": 2, "under": 4}), (Ratio.of, {"text": "1/2"}), (Ratio(1).divided, {"other": 3}),
        (Script, {"text": "a b"}), (script.times, {"many": 3}), (Book, {"text": KITE}), (book.told, {"line": "peg q"}),
        (book.without, {"name": "b"}), (motion.times, {"many": 3}), (motion.at, {"drawing": drawing, "dot": (1, 2)}),
        (Drawing, {"book": book, "rows": PLAIN}), (drawing.led, {"script": script, "dot": (1, 2)}),
        (motions.table, {"book": book, "script": script}), (drawings.draw, {"book": book}),
        (kinds.kind, {"book": book, "script": script}),
        (kinds.shows_kind, {"book": book, "script": script, "value": ("half turn", drawing)}),
        (kinds.same, {"book": book, "one": script, "other": Script("a c")}),
        (kinds.shows_same, {"book": book, "one": script, "other": Script("a c"), "value": ("apart", drawing, (1, 2))}),
        (claims.judged, {"book": book, "claim": "peg p is a c"}),
        (claims.shows_judged, {"book": book, "claim": "peg p is a c", "value": ("not", drawing)}),
        (least.nothings, {"book": book, "names": ("p", "a"), "most": 4}),
        (least.shortest, {"book": book, "names": ("p", "a"), "script": script}),
        (least.shows_shortest, {"book": book, "names": ("p", "a"), "script": script, "value": ("row", Script("p"))}),
        (looks.left, {"book": book, "names": ("a", "b"), "most": 2, "looks": seen}),
        (looks.look, {"book": book, "names": ("a", "b"), "most": 2, "looks": seen}),
        (looks.shows_look, {"book": book, "names": ("a", "b"), "most": 2, "looks": seen, "value": (drawing, (1, 2))}),
        (needing.loosened, {"book": book, "name": "b"}), (needing.needed, {"book": book, "claim": "peg p is a b"}),
        (needing.core, {"book": book, "claim": "peg p is a b"}),
        (choosing.cheapest, {"book": book, "offers": offers, "wishes": wishes}), (Board, {"drawing": drawing}),
        (board.put, {"dot": (3, 4)}), (board.step, {"name": "a"}), (board.lay, {"line": "peg q on a", "row": (0, 5)}),
        (board.wipe, {"number": 0}), (board.judged, {"claim": "peg p is a b"}), (journals.journal, {"board": board}),
        (journals.read_journal, {"text": JOURNAL}), (desk.Desk, {"text": JOURNAL}), (desk.Desk(JOURNAL).say, {"line": "dots"}),
    ]


class Interface(unittest.TestCase):
    def test_parameters_of_classes(self):
        for module, told in CLASSES.items():
            for name, methods in told.items():
                made = getattr(module, name)
                for method, parameters in methods.items():
                    with self.subTest(name=name, method=method):
                        found = list(inspect.signature(getattr(made, method) if method else made).parameters)
                        self.assertEqual([one for one in found if one != "self"], parameters.split())
                        if method:
                            self.assertIn(method, vars(made))
                        self.assertEqual(made.__module__, module.__name__)

    def test_parameters_of_functions(self):
        for module, told in FUNCTIONS.items():
            for name, parameters in told.items():
                with self.subTest(name=name):
                    function = getattr(module, name)
                    self.assertEqual(list(inspect.signature(function).parameters), parameters.split())
                    self.assertEqual(function.__module__, module.__name__)

    def test_errors(self):
        for name in ERRORS:
            error = getattr(errors, name)
            self.assertEqual(error.__module__, "loosemirrors.errors")
            self.assertEqual(error.__bases__, (ValueError,) if name == "MirrorError" else (errors.MirrorError,))

    def test_keep_is_handed_in_by_its_name(self):
        parameter = inspect.signature(Board.tried).parameters["keep"]
        self.assertIs(parameter.kind, inspect.Parameter.KEYWORD_ONLY)
        self.assertIs(parameter.default, False)
        self.assertEqual(inspect.signature(Ratio).parameters["under"].default, 1)


class Calls(unittest.TestCase):
    def test_by_names_in_any_sequence_and_by_position(self):
        self.assertEqual(len(calls()), len({deed.__qualname__ for deed, _ in calls()}))
        for at, (_, named) in enumerate(calls()):
            # Each time on things that were made anew: deeds change a board.
            found = []
            for turn in range(4):
                deed = calls()[at][0]
                arguments = list(calls()[at][1].items())
                if turn == 0:
                    found.append(deed(*[value for _, value in arguments]))
                elif turn == 1:
                    found.append(deed(**dict(arguments)))
                elif turn == 2:
                    found.append(deed(**dict(arguments[::-1])))
                else:
                    found.append(deed(arguments[0][1], **dict(arguments[:0:-1])))
            with self.subTest(deed=deed.__qualname__):
                for other in found[1:]:
                    if type(other) is desk.Desk:
                        other, found[0] = other.board, read(found[0])
                    self.assertEqual(other, found[0])
                    self.assertIs(type(other), type(found[0]))

    def test_methods_of_boards_without_arguments(self):
        board = Board(Drawing(Book(CROSS), PLAIN))
        board.step("a")
        self.assertEqual([board.undo(), board.redo(), board.kind(), board.copy() == board], [None, None, "mirroring", True])
        self.assertEqual(board.tried(keep=True, look=lambda held: held.step("b")), None)
        self.assertEqual(board.row.text, "a b")
        with board.trial():
            self.assertIsNone(board.keep())


def read(value):
    return value.board if type(value) is desk.Desk else value


if __name__ == "__main__":
    unittest.main()
