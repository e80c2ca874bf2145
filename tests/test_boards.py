import random
import unittest
from fractions import Fraction

from loosemirrors.boards import Board
from loosemirrors.books import Book
from loosemirrors.claims import judged
from loosemirrors.drawings import Drawing, draw
from loosemirrors.errors import (
    BadClaim, BadDot, BadLine, BadRows, Full, Long, MirrorError, NoDot, NoName, NothingToRedo, NothingToUndo, NoTrial,
)
from loosemirrors.journals import journal, read_journal
from loosemirrors.kinds import kind
from loosemirrors.ratios import Ratio
from loosemirrors.scripts import Script
from tests.refusals import Refusals
from tests.samples import Strange, all_values, nested
from tests.shelf import CROSS, GREATEST, TWO, any_book
from tests.sketches import any_rows, as_dot, as_rows, led, plain_rows

PLAIN = ((0, 0), (1, 0, 0), (0, 1, 0), (1, 1, 0))
HALF = Ratio(1, 2)


def crossed():
    return Drawing(Book(CROSS), PLAIN)


def fresh():
    return Board(crossed())


def state(board):
    """All that a board tells."""
    return board.first, board.drawing, board.row, board.dots, board.done, len(board), board.kind(), journal(board)


def whole_state(board):
    """All that a board tells, at each place to which undo and redo lead from here; the board itself stays as it is."""
    other = board.copy()
    found = [state(board), state(other)]
    behind = 0
    while True:
        try:
            other.redo()
        except NothingToRedo:
            break
        behind += 1
        found.append(state(other))
    for _ in range(other.done):
        other.undo()
        found.append(state(other))
    return behind, found


def ratios(*numbers):
    return tuple(Ratio(number) for number in numbers)


class Deeds(Refusals):
    def check(self, board, row, dots, done):
        self.assertEqual((board.row, board.dots, board.done), (Script(row), tuple(ratios(*dot) for dot in dots), done))
        self.assertEqual(len(board), len(dots))
        self.assertEqual([type(board.row), type(board.dots), type(board.done)], [Script, tuple, int])
        for dot in board.dots:
            self.assertEqual([type(dot)] + [type(part) for part in dot], [tuple, Ratio, Ratio])

    def test_a_new_board(self):
        drawing = crossed()
        board = Board(drawing)
        self.check(board, "", (), 0)
        self.assertEqual((board.first, board.drawing, board.kind()), (drawing, drawing, "nothing"))
        self.assertLessEqual({"first", "drawing", "row", "dots", "done"}, set(vars(board)))

    def test_put(self):
        board = fresh()
        self.assertIsNone(board.put((1, 2)))
        self.check(board, "", [(1, 2)], 1)
        self.assertIsNone(board.put((Ratio(3), -1)))
        self.check(board, "", [(1, 2), (3, -1)], 2)
        board.put((1, 2))
        self.check(board, "", [(1, 2), (3, -1), (1, 2)], 3)
        board.put((HALF, 0))
        self.assertEqual(board.dots[3], (HALF, Ratio(0)))

    def test_put_behind_steps(self):
        board = fresh()
        board.put((1, 2))
        board.step("a")
        board.put((1, 2))
        board.step("b")
        self.check(board, "a b", [(-1, -2), (1, -2)], 4)

    def test_put_what_is_no_dot(self):
        board = fresh()
        for value in [value for value in all_values() if value != (1, 2)] + [(True, 1), [1, 2], (1, 2, 3), (1, "2"), (1.5, 2)]:
            with self.subTest(value=value):
                self.assertIs(self.refused(BadDot, value, board.put, value), value)
        self.check(board, "", (), 0)

    def test_eight_dots_and_nine(self):
        board = fresh()
        for at in range(8):
            board.put((at, at))
        self.refused(Full, 8, board.put, (8, 8))
        self.refused(BadDot, None, board.put, None)
        self.assertEqual((len(board), board.done), (8, 8))
        board.wipe(3)
        board.put((9, 9))
        self.refused(Full, 8, board.put, (8, 8))
        self.check(board, "", [(at, at) for at in (0, 1, 2, 4, 5, 6, 7, 9)], 10)

    def test_step(self):
        board = fresh()
        board.put((1, 2))
        for name, row, dot, word in (("a", "a", (-1, 2), "mirroring"), ("c", "a c", (-2, 1), "turn"),
                                     ("p", "a c p", (2, -1), "turn"), ("b", "a c p b", (2, 1), "mirroring")):
            self.assertIsNone(board.step(name))
            self.check(board, row, [dot], 1 + len(row.split(" ")))
            self.assertEqual(board.kind(), word)

    def test_step_by_what_is_no_name(self):
        board = fresh()
        board.put((1, 2))
        for value in [value for value in all_values() if value != "a"] + ["q", "ab", "A", "a ", ("a",), ["a"], Script("a")]:
            with self.subTest(value=value):
                self.assertIs(self.refused(NoName, value, board.step, value), value)
        self.check(board, "", [(1, 2)], 1)

    def test_24_steps_and_25(self):
        board = fresh()
        for at in range(24):
            board.step("abcp"[at % 4])
        self.refused(Long, 24, board.step, "a")
        self.refused(NoName, "z", board.step, "z")
        self.assertEqual((board.done, len(board.row)), (24, 24))
        board.put((1, 1))
        board.undo()
        board.undo()
        board.step("c")
        self.assertEqual(board.row.steps[-2:], ("c", "c"))

    def test_lay(self):
        board = fresh()
        board.put((1, 2))
        board.step("a")
        self.assertIsNone(board.lay("peg q on a", (0, 5)))
        self.assertEqual(board.drawing, Drawing(Book(CROSS + "\npeg q on a"), PLAIN + ((0, 5),)))
        self.assertEqual((board.drawing["q"], board.first), (ratios(0, 5), crossed()))
        board.lay("mirror d along b through q", (Ratio(0), HALF, Ratio(5, 2)))
        self.assertEqual(board.drawing["d"], (Ratio(0), HALF, Ratio(5, 2)))
        board.step("q")
        self.check(board, "a q", [(1, 8)], 5)
        board.step("d")
        self.check(board, "a q d", [(1, 2)], 6)
        self.assertEqual(board.kind(), "nothing")

    def test_lay_what_is_no_line(self):
        board = fresh()
        for value in all_values() + ["peg p", "peg q on d", "mirror d is a c", "peg q on a ", "peg q\npeg r", "mirror d is p a b",
                                     ("peg q",), nested(29)]:
            for row in ((0, 5), None, (1, 0, 3)):
                with self.subTest(value=value):
                    self.assertIs(self.refused(BadLine, value, board.lay, value, row), value)
        self.check(board, "", (), 0)

    def test_lay_what_is_no_row(self):
        board = fresh()
        for line, rows in (("peg q on a", ((1, 5), (0,), (0, 5, 0), (), [0, 5], (0, True), (0, "5"), (0, None))),
                           ("mirror d", ((0, 0, 1), (1, 2), (1, 2, 3, 4), [1, 2, 3], (1, 2, True))),
                           ("mirror d is a b c", ((1, 1, 0), (1, -1, 1), (1, 0, 0), (0, 0, 0))),
                           ("mirror d through p", ((1, 2, 1), (0, 0, 0), (1, 2, HALF)))):
            for row in list(rows) + [None, 3, "1 2 3", True, {}, draw(Book(TWO)), nested(29), ((1, 2, 3),)]:
                with self.subTest(line=line, row=row):
                    self.assertIs(self.refused(BadRows, row, board.lay, line, row), row)
        self.check(board, "", (), 0)
        board.lay("mirror d is a b c", (-2, 2, 0))

    def test_twelve_lines_and_thirteen(self):
        board = fresh()
        for at, name in enumerate("efghijkl"):
            board.lay(f"peg {name}", (at, Ratio(at, 7)))
        self.assertEqual(len(board.drawing.book), 12)
        self.refused(BadLine, "peg z", board.lay, "peg z", (0, 0))
        self.refused(BadLine, "peg z", board.lay, "peg z", None)
        board.step("l")
        self.assertEqual(board.row.text, "l")

    def test_wipe(self):
        board = fresh()
        for at in range(4):
            board.put((at, 0))
        self.assertIsNone(board.wipe(1))
        self.check(board, "", [(0, 0), (2, 0), (3, 0)], 5)
        board.wipe(2)
        board.wipe(0)
        self.check(board, "", [(2, 0)], 7)
        board.wipe(0)
        self.check(board, "", (), 8)
        self.refused(NoDot, 0, board.wipe, 0)

    def test_wipe_what_is_no_number_of_a_dot(self):
        board = fresh()
        board.put((1, 2))
        board.put((3, 4))
        for value in all_values() + [2, 3, -1, -2, True, False, "0", (0,), Ratio(0), Ratio(1), 0.0, Strange(), (1, 2)]:
            if type(value) is int and value in (0, 1):
                continue
            with self.subTest(value=value):
                self.assertIs(self.refused(NoDot, value, board.wipe, value), value)
        self.check(board, "", [(1, 2), (3, 4)], 2)

    def test_in(self):
        board = fresh()
        board.put((1, HALF))
        board.put((2, 3))
        for value, right in (((Ratio(1), HALF), True), (ratios(2, 3), True), ((2, 3), False), ((Ratio(2), 3), False),
                             (list(ratios(2, 3)), False), (ratios(2, 3, 4), False), (ratios(3, 2), False), (ratios(2), False),
                             (Ratio(2), False), ((ratios(2, 3),), False), (ratios(1, 1), False)):
            with self.subTest(value=value):
                self.assertIs(value in board, right)
        for value in all_values():
            self.assertIs(value in board, False)
        board.step("a")
        self.assertIs(ratios(2, 3) in board, False)
        self.assertIs(ratios(-2, 3) in board, True)
        self.assertIs(ratios(2, 3) in fresh(), False)

    def test_kind_and_judged_by_the_book_now(self):
        board = Board(Drawing(Book(TWO), ((1, 0, 0), (0, 1, 0))))
        board.step("a")
        board.step("b")
        self.assertEqual(board.kind(), "turn")
        self.refused(BadClaim, "peg p is a b", board.judged, "peg p is a b")
        board.lay("peg p", (0, 0))
        self.assertEqual(board.judged("peg p is a b"), "not")
        board.lay("mirror d across a through p", (0, 1, 0))
        self.assertEqual([board.judged("mirror a across d through p"), board.judged("mirror d across a through p")],
                         ["not", "always"])
        board.step("a")
        board.step("d")
        self.assertEqual(board.kind(), "turn")
        for _ in range(3):
            board.undo()
        self.refused(BadClaim, "mirror d across a through p", board.judged, "mirror d across a through p")
        board.undo()
        self.refused(BadClaim, "peg p is a b", board.judged, "peg p is a b")

    def test_judged_refuses_what_is_no_claim(self):
        board = fresh()
        for value in all_values() + ["mirror a", "peg p is z", nested(29)]:
            with self.subTest(value=value):
                self.assertIs(self.refused(BadClaim, value, board.judged, value), value)
        for claim in ("peg p is a b", "peg p is a c", "mirror c is c", "mirror c through p", "mirror c across a through p"):
            self.assertEqual(board.judged(claim), judged(board.drawing.book, claim)[0])

    def test_signs_that_are_not_described(self):
        board = fresh()
        for deed in (lambda: board + board, lambda: board < board, lambda: board * 2, lambda: -board, lambda: board[0],
                     lambda: 1 + board):
            with self.assertRaises(TypeError):
                deed()

    def test_names_of_the_arguments(self):
        board = Board(drawing=crossed())
        board.put(dot=(1, 2))
        board.step(name="a")
        board.lay(row=(0, 5), line="peg q on a")
        board.wipe(number=0)
        self.assertEqual(board.judged(claim="peg p is a b"), "always")
        self.assertEqual(board.tried(keep=False, look=len), 0)
        self.assertEqual((board.done, board.row.text), (4, "a"))


class UndoAndRedo(Refusals):
    def test_nothing_to_undo_and_to_redo(self):
        board = fresh()
        self.assertIsNone(self.refused(NothingToUndo, None, board.undo))
        self.assertIsNone(self.refused(NothingToRedo, None, board.redo))
        board.put((1, 2))
        self.refused(NothingToRedo, None, board.redo)
        board.undo()
        self.refused(NothingToUndo, None, board.undo)
        board.redo()
        self.refused(NothingToRedo, None, board.redo)
        self.assertEqual(board.done, 1)

    def test_to_both_ends(self):
        board = fresh()
        seen = [state(board)]
        for deed in (lambda: board.put((1, 2)), lambda: board.step("a"), lambda: board.lay("peg q on a", (0, 5)),
                     lambda: board.put((HALF, 3)), lambda: board.step("q"), lambda: board.wipe(0), lambda: board.step("c"),
                     lambda: board.lay("mirror d is q a q", (1, 0, 0)), lambda: board.step("d")):
            deed()
            seen.append(state(board))
        for _ in range(2):
            for at in range(len(seen) - 1, 0, -1):
                self.assertEqual(state(board), seen[at])
                self.assertIsNone(board.undo())
            self.assertEqual(state(board), seen[0])
            self.refused(NothingToUndo, None, board.undo)
            for at in range(1, len(seen)):
                self.assertIsNone(board.redo())
                self.assertEqual(state(board), seen[at])
            self.refused(NothingToRedo, None, board.redo)

    def test_a_refused_deed_is_none(self):
        board = fresh()
        board.put((1, 2))
        board.step("a")
        before = state(board)
        board.undo()
        for error, value, deed, args in (
            (BadDot, None, board.put, (None,)), (NoName, "z", board.step, ("z",)), (NoDot, 1, board.wipe, (1,)),
            (BadLine, "peg p", board.lay, ("peg p", (0, 0))), (BadRows, (1, 5), board.lay, ("peg q on a", (1, 5))),
            (BadClaim, "", board.judged, ("",)), (NoTrial, None, board.keep, ()),
        ):
            self.refused(error, value, deed, *args)
        board.kind()
        board.judged("peg p is a b")
        board.redo()
        self.assertEqual(state(board), before)

    def test_another_deed_between_them(self):
        for deed in (lambda board: board.put((3, 4)), lambda board: board.step("b"), lambda board: board.wipe(0),
                     lambda board: board.lay("peg q", (1, 1)), lambda board: board.step("a")):
            board = fresh()
            board.put((1, 2))
            board.step("a")
            board.step("c")
            board.undo()
            board.undo()
            deed(board)
            self.assertEqual(board.done, 2)
            self.refused(NothingToRedo, None, board.redo)
            board.undo()
            self.assertEqual(state(board)[2:4], (Script(""), (ratios(1, 2),)))
            board.redo()
            self.assertEqual(board.done, 2)


class Raised(Exception):
    pass


class Trials(Refusals):
    def test_what_is_not_kept_leaves_nothing(self):
        board = fresh()
        board.put((1, 2))
        board.step("a")
        board.step("b")
        board.undo()
        before = whole_state(board)
        with board.trial() as held:
            self.assertIs(held, board)
            board.step("c")
            board.lay("peg q", (7, 7))
            board.put((5, 5))
            self.assertEqual((board.done, len(board)), (5, 2))
        self.assertEqual(whole_state(board), before)
        self.assertEqual(before[0], 1)
        board.redo()
        self.assertEqual(board.row.text, "a b")

    def test_what_is_kept_stays(self):
        board = fresh()
        board.put((1, 2))
        with board.trial():
            board.step("a")
            self.assertIsNone(board.keep())
            board.step("b")
            board.keep()
        self.assertEqual((board.row.text, board.done), ("a b", 3))
        board.undo()
        board.undo()
        board.undo()
        self.refused(NothingToUndo, None, board.undo)
        board.redo()
        self.assertEqual(board.dots, (ratios(1, 2),))

    def test_undo_of_what_was_done_ahead_of_the_block(self):
        for is_kept in (False, True):
            board = fresh()
            board.put((1, 2))
            board.step("a")
            before = whole_state(board)
            with board.trial():
                board.undo()
                board.undo()
                self.refused(NothingToUndo, None, board.undo)
                self.assertEqual(board.done, 0)
                board.redo()
                board.step("c")
                if is_kept:
                    board.keep()
            if is_kept:
                self.assertEqual((board.row.text, board.done), ("c", 2))
                self.refused(NothingToRedo, None, board.redo)
            else:
                self.assertEqual(whole_state(board), before)

    def test_redo_of_what_was_done_ahead_of_the_block(self):
        board = fresh()
        board.step("a")
        board.step("b")
        board.undo()
        with board.trial():
            board.redo()
            self.assertEqual(board.row.text, "a b")
            self.refused(NothingToRedo, None, board.redo)
        self.assertEqual((board.row.text, board.done), ("a", 1))
        with board.trial():
            board.redo()
            board.keep()
        self.assertEqual((board.row.text, board.done), ("a b", 2))
        with board.trial():
            board.undo()
            board.keep()
        self.assertEqual((board.row.text, board.done), ("a", 1))
        board.redo()
        self.assertEqual(board.row.text, "a b")

    def test_left_by_an_error(self):
        for kept in (False, True):
            board = fresh()
            board.step("a")
            before = whole_state(board)
            with self.assertRaises(Raised):
                with board.trial():
                    board.step("b")
                    if kept:
                        board.keep()
                    raise Raised
            self.assertEqual(whole_state(board), before)
            self.refused(NoTrial, None, board.keep)

    def test_left_by_an_error_of_the_board(self):
        board = fresh()
        with self.assertRaises(NoName) as raised:
            with board.trial():
                board.step("a")
                board.keep()
                board.step("z")
        self.assertEqual((raised.exception.value, board.done), ("z", 0))

    def test_an_error_that_does_not_leave_the_block(self):
        board = fresh()
        with board.trial():
            board.step("a")
            self.refused(NoName, "z", board.step, "z")
            board.keep()
        self.assertEqual(board.row.text, "a")

    def test_keep_outside_of_all_blocks(self):
        board = fresh()
        self.assertIsNone(self.refused(NoTrial, None, board.keep))
        trial = board.trial()
        self.refused(NoTrial, None, board.keep)
        with trial:
            board.keep()
        self.refused(NoTrial, None, board.keep)
        with board.trial():
            pass
        self.refused(NoTrial, None, board.keep)

    def test_a_block_begins_where_it_is_entered(self):
        board = fresh()
        trial = board.trial()
        board.step("a")
        with trial:
            board.step("b")
        self.assertEqual(board.row.text, "a")

    def test_three_blocks_deep(self):
        for keeps in range(8):
            first, second, third = (bool(keeps & bit) for bit in (1, 2, 4))
            board = fresh()
            board.step("p")
            with board.trial():
                board.step("a")
                with board.trial():
                    board.step("b")
                    with board.trial() as held:
                        self.assertIs(held, board)
                        board.step("c")
                        if third:
                            board.keep()
                    self.assertEqual(board.row.text, "p a b c" if third else "p a b")
                    board.step("a")
                    if second:
                        board.keep()
                self.assertEqual(board.row.text, "p a" + (" b" + " c" * third + " a") * second)
                board.step("b")
                if first:
                    board.keep()
            expected = "p" + (" a" + (" b" + " c" * third + " a") * second + " b") * first
            self.assertEqual(board.row.text, expected)
            self.assertEqual(board.done, len(expected.split(" ")))
            self.refused(NoTrial, None, board.keep)

    def test_keep_belongs_to_the_innermost_block(self):
        board = fresh()
        with board.trial():
            board.step("a")
            with board.trial():
                board.keep()
                board.step("b")
            self.assertEqual(board.row.text, "a b")
        self.assertEqual(board.row.text, "")
        with board.trial():
            board.keep()
            with board.trial():
                board.step("c")
            board.step("b")
        self.assertEqual(board.row.text, "b")

    def test_an_error_leaves_some_of_the_blocks(self):
        board = fresh()
        with board.trial():
            board.step("a")
            board.keep()
            try:
                with board.trial():
                    board.step("b")
                    board.keep()
                    with board.trial():
                        board.keep()
                        raise Raised
            except Raised:
                board.step("c")
        self.assertEqual(board.row.text, "a c")

    def test_a_block_that_is_left_by_return(self):
        board = fresh()

        def work():
            with board.trial():
                board.step("a")
                board.keep()
                return board.row.text

        self.assertEqual((work(), board.row.text), ("a", "a"))

    def test_two_boards(self):
        one, other = fresh(), fresh()
        with one.trial():
            with other.trial():
                one.step("a")
                other.step("b")
                other.keep()
                self.assertEqual((one.row.text, other.row.text), ("a", "b"))
            self.refused(NoTrial, None, other.keep)
        self.assertEqual((one.row.text, other.row.text), ("", "b"))


class Tried(Refusals):
    def test_what_look_returns(self):
        board = fresh()
        board.put((1, 2))
        for value in all_values() + [NoTrial, board, self]:
            self.assertIs(board.tried(lambda held: value), value)
        self.assertIs(board.tried(lambda held: held), board)
        self.assertEqual(board.tried(len), 1)
        self.assertIsNone(board.tried(lambda held: held.step("a")))
        self.assertEqual(state(board), state(board.copy()))
        self.assertEqual((board.done, board.row.text), (1, ""))

    def test_keep_as_true_alone(self):
        for keep, is_kept in ((True, True), (False, False), (1, False), ("yes", False), (None, False), (0, False), ([1], False),
                              (Ratio(1), False), (nested(30), False), (fresh(), False)):
            board = fresh()
            self.assertIsNone(board.tried(lambda held: held.step("a"), keep=keep))
            with self.subTest(keep=keep):
                self.assertEqual(board.row.text, "a" if is_kept else "")
                self.refused(NoTrial, None, board.keep)
        board = fresh()
        board.tried(lambda held: held.step("a"))
        self.assertEqual(board.done, 0)
        with self.assertRaises(TypeError):
            board.tried(len, True)

    def test_a_look_that_calls_keep(self):
        for keep in (True, False, None, 1):
            board = fresh()

            def work(held):
                held.step("a")
                held.keep()
                held.step("b")
                return held.row.text

            self.assertEqual((board.tried(work, keep=keep), board.row.text), ("a b", "a b"))

    def test_a_look_that_raises(self):
        for keep in (True, False):
            board = fresh()
            board.step("c")
            before = whole_state(board)

            def work(held):
                held.step("a")
                held.keep()
                raise Raised

            with self.assertRaises(Raised):
                board.tried(work, keep=keep)
            self.assertEqual(whole_state(board), before)
            self.refused(NoTrial, None, board.keep)
            with self.assertRaises(NoName):
                board.tried(lambda held: held.step("z"), keep=True)

    def test_blocks_within_it(self):
        board = fresh()

        def inner(held):
            held.step("b")
            return held.row.text

        def outer(held):
            held.step("a")
            return held.tried(inner, keep=True), held.tried(inner), held.row.text

        self.assertEqual(board.tried(outer), ("a b", "a b b", "a b"))
        self.assertEqual(board.row.text, "")
        self.assertEqual(board.tried(outer, keep=True), ("a b", "a b b", "a b"))
        self.assertEqual((board.row.text, board.done), ("a b", 2))
        with board.trial():
            board.tried(inner, keep=True)
            self.assertEqual(board.row.text, "a b b")
        self.assertEqual(board.row.text, "a b")

    def test_keep_of_a_block_around_it(self):
        board = fresh()
        with board.trial():
            board.tried(lambda held: held.keep())
            board.step("a")
        self.assertEqual(board.row.text, "")


class CopiesAndEqualBoards(Refusals):
    def board(self):
        board = fresh()
        board.put((1, 2))
        board.step("a")
        board.lay("peg q on a", (0, 5))
        board.step("q")
        board.undo()
        return board

    def test_a_copy_is_alike_in_all_things(self):
        board = self.board()
        other = board.copy()
        self.assertIs(type(other), Board)
        self.assertIsNot(other, board)
        self.assertEqual(other, board)
        self.assertEqual(whole_state(other), whole_state(board))
        self.assertEqual(other.first, board.first)

    def test_a_copy_is_independent(self):
        board = self.board()
        other = board.copy()
        before = whole_state(board)
        other.redo()
        other.step("b")
        other.wipe(0)
        other.undo()
        self.assertEqual(whole_state(board), before)
        self.assertNotEqual(other, board)
        there = whole_state(other)
        for _ in range(3):
            board.undo()
        board.put((9, 9))
        self.assertEqual(whole_state(other), there)

    def test_a_copy_is_outside_of_all_blocks(self):
        board = self.board()
        with board.trial():
            board.step("c")
            other = board.copy()
            self.refused(NoTrial, None, other.keep)
            other.step("b")
            with other.trial():
                other.keep()
                other.step("p")
            board.step("a")
            with board.trial():
                self.refused(NoTrial, None, other.keep)
        self.assertEqual((board.row.text, other.row.text), ("a", "a c b p"))

    def test_equal_boards(self):
        one, other = fresh(), Board(Drawing(Book(CROSS), tuple(tuple(Ratio(number) for number in row) for row in PLAIN)))
        self.assertEqual(one, other)
        one.put((1, 2))
        self.assertNotEqual(one, other)
        other.put((Ratio(1), Ratio(2)))
        self.assertEqual(one, other)
        one.lay("peg q on a", (0, 5))
        other.lay("peg q on a", (Ratio(0), Ratio(5)))
        self.assertTrue(one == other)
        self.assertFalse(one != other)

    def test_whatever_was_taken_back(self):
        one, other = fresh(), fresh()
        one.step("a")
        one.step("b")
        one.undo()
        other.step("a")
        self.assertEqual(one, other)
        one.redo()
        self.assertNotEqual(one, other)
        one.undo()
        one.undo()
        other.undo()
        self.assertEqual(one, other)
        self.assertEqual(one, fresh())

    def test_boards_that_are_alike_by_other_deeds_are_not_equal(self):
        one, other = fresh(), fresh()
        one.put((1, 2))
        one.wipe(0)
        self.assertNotEqual(one, other)
        one, other = fresh(), fresh()
        one.put((1, 2))
        one.put((1, 2))
        one.wipe(0)
        other.put((1, 2))
        other.put((1, 2))
        other.wipe(1)
        self.assertEqual(one.dots, other.dots)
        self.assertNotEqual(one, other)

    def test_other_drawings_and_rows(self):
        self.assertNotEqual(fresh(), Board(Drawing(Book(CROSS), ((0, 0), (2, 0, 0), (0, 1, 0), (1, 1, 0)))))
        laid = Board(Drawing(Book(TWO), ((1, 0, 0), (0, 1, 0))))
        laid.lay("peg p", (0, 0))
        self.assertNotEqual(laid, Board(laid.drawing))
        one, other = fresh(), fresh()
        one.lay("mirror d", (1, 2, 3))
        other.lay("mirror d", (2, 4, 6))
        self.assertNotEqual(one, other)
        one, other = fresh(), fresh()
        one.lay("mirror d along b through p", (0, 1, 0))
        other.lay("mirror d across a through p", (0, 1, 0))
        self.assertNotEqual(one, other)

    def test_equal_nothing_else(self):
        board = fresh()
        for value in all_values() + [board.first, board.row, journal(board), Strange(), None]:
            self.assertFalse(board == value)
            self.assertTrue(board != value)
            self.assertFalse(value == board)

    def test_equal_exactly_if_their_journals_are(self):
        boards = []
        for seed in range(30):
            board = fresh()
            any_deeds(board, random.Random(seed % 15), 1 + seed % 5)
            boards.append(board)
        for one in boards:
            for other in boards:
                self.assertIs(one == other, journal(one) == journal(other))
        self.assertEqual(boards[3], boards[18])


LINES = (("peg q on a", (0, 5)), ("peg r", (HALF, -2)), ("mirror d is a b c", (1, -1, 0)), ("peg s from p in a", (0, 0)),
         ("mirror e", (3, 4, 5)), ("peg t from q in c", (-5, 0)), ("peg q", (3, 3)), ("mirror f along e through r", (3, 4, 0)),
         ("mirror a", (1, 1, 1)), ("peg u on a", (1, 1)))


def any_deed(board, chance):
    """Tries one deed at a board, perhaps one that is refused."""
    word = chance.choice(("put", "put", "step", "step", "step", "lay", "wipe", "undo", "undo", "redo"))
    if word == "put":
        board.put((chance.randint(-3, 3), Ratio(chance.randint(-3, 3), chance.randint(1, 3))))
    elif word == "step":
        board.step(chance.choice("abcpqrz"))
    elif word == "lay":
        board.lay(*chance.choice(LINES))
    elif word == "wipe":
        board.wipe(chance.randint(-1, 4))
    elif word == "undo":
        board.undo()
    else:
        board.redo()


def any_deeds(board, chance, many):
    """Does so many deeds at a board; those that are refused are none."""
    done = 0
    while done < many:
        before = state(board)
        try:
            any_deed(board, chance)
        except MirrorError:
            assert state(board) == before
        else:
            done += 1


class Plain:
    """A board as a list of moments and where in it one is: what a Board is to do, without one."""

    def __init__(self, drawing):
        self.moments = [((), (), drawing)]
        self.at = 0

    def now(self):
        return self.moments[self.at]

    def add(self, row, dots, drawing):
        self.moments = self.moments[:self.at + 1] + [(row, dots, drawing)]
        self.at += 1


class AnyDeeds(unittest.TestCase):
    def test_all_is_as_the_deeds_that_stand_make_it(self):
        for seed in range(60):
            chance = random.Random(seed)
            board = fresh()
            plain = Plain(crossed())
            for _ in range(60):
                self.both(board, plain, chance)
                row, dots, drawing = plain.now()
                self.assertEqual((board.row.steps, board.dots, board.drawing, board.done), (row, dots, drawing, plain.at))

    def both(self, board, plain, chance):
        """One deed at the board and, by plain geometry, at its model."""
        row, dots, drawing = plain.now()
        word = chance.choice(("put", "step", "step", "lay", "wipe", "undo", "redo", "undo"))
        if word == "put" and len(dots) < 8:
            dot = (Ratio(chance.randint(-3, 3)), Ratio(chance.randint(-3, 3), chance.randint(1, 3)))
            board.put(dot)
            plain.add(row, dots + (dot,), drawing)
        elif word == "step" and len(row) < 24:
            name = chance.choice(drawing.book.names)
            rows = plain_rows(drawing)
            board.step(name)
            ends = [as_dot(led(rows, [name], tuple(Fraction(part.number, part.under) for part in dot))) for dot in dots]
            plain.add(row + (name,), tuple(ends), drawing)
        elif word == "wipe" and dots:
            at = chance.randrange(len(dots))
            board.wipe(at)
            plain.add(row, dots[:at] + dots[at + 1:], drawing)
        elif word == "lay" and len(drawing.book) < 12:
            name = f"x{'abcdefghijkl'[len(drawing.book)]}"
            numbers = (chance.randint(-4, 4), Ratio(1, chance.randint(1, 5)))
            board.lay(f"peg {name}", numbers)
            plain.add(row, dots, Drawing(drawing.book.told(f"peg {name}"), drawing.rows + (numbers,)))
        elif word == "undo" and plain.at:
            board.undo()
            plain.at -= 1
        elif word == "redo" and plain.at < len(plain.moments) - 1:
            board.redo()
            plain.at += 1

    def test_blocks_at_any_place(self):
        for seed in range(80):
            chance = random.Random(seed)
            board = fresh()
            any_deeds(board, chance, 6)
            self.blocks(board, chance, 3)

    def blocks(self, board, chance, deep):
        """A block, with others in it, that is kept or not, or left by an error."""
        before = whole_state(board)
        way = chance.choice(("kept", "not", "error", "kept and error"))
        inside = None
        try:
            with board.trial():
                any_deeds(board, chance, chance.randint(0, 4))
                for _ in range(chance.randint(0, 2) if deep else 0):
                    self.blocks(board, chance, deep - 1)
                if "kept" in way:
                    board.keep()
                any_deeds(board, chance, chance.randint(0, 3))
                inside = whole_state(board)
                if "error" in way:
                    raise Raised
        except Raised:
            pass
        self.assertEqual(whole_state(board), inside if way == "kept" else before)


class Greatest(Refusals):
    def test_twelve_lines_eight_dots_24_steps(self):
        for text in GREATEST:
            board = Board(draw(Book("\n".join(text.split("\n")[:9]))))
            whole = draw(Book(text))
            # What is drawn of the first lines is drawn alike in both.
            self.assertEqual(whole.rows[:9], board.drawing.rows)
            for line, row in zip(text.split("\n")[9:], whole.rows[9:]):
                board.lay(line, row)
            self.assertEqual(board.drawing, whole)
            for at in range(8):
                board.put((at, Ratio(1, at + 1)))
            names = (whole.book.names * 2)[:24]
            for name in names:
                board.step(name)
            script = Script(" ".join(names))
            self.assertEqual((board.row, board.kind()), (script, kind(whole.book, script)[0]))
            for at in range(8):
                self.assertEqual(board.dots[at], whole.led(script, (at, Ratio(1, at + 1))))
            self.refused(Long, 24, board.step, names[0])
            self.refused(Full, 8, board.put, (0, 0))
            self.refused(BadLine, "peg z", board.lay, "peg z", (0, 0))
            done = board.done
            self.assertEqual(done, 3 + 8 + 24)
            for _ in range(done):
                board.undo()
            self.assertEqual(board, Board(board.first))
            for _ in range(done):
                board.redo()
            self.assertEqual(board.row, script)

    def test_numbers_of_900_figures(self):
        great = 10 ** 899 + 7
        book = Book("mirror a\npeg p\nmirror b through p\npeg q on a\nmirror c across b through q")
        row = (great, 3, great * great)
        board = Board(Drawing(book, (row, (great, great + 1), (1, -great, great - great * (great + 1)), (great, 0),
                                     (great, 1, great * great))))
        for at in range(8):
            board.put((great + at, Ratio(at, great)))
        for at in range(24):
            board.step("abcpq"[at % 5])
        script = board.row
        self.assertEqual(board.dots[5], board.first.led(script, (great + 5, Ratio(5, great))))
        self.assertEqual(board.drawing.led(~script, board.dots[5]), (Ratio(great + 5), Ratio(5, great)))
        board.wipe(5)
        board.lay("peg r", board.dots[0])
        board.undo()
        self.assertIs(board.drawing.led(~script, board.dots[5])[0] == Ratio(great + 6), True)
        # What was told is put again, however many figures it has.
        board.put(board.dots[0])
        self.assertEqual(board.dots[7], board.dots[0])
        self.assertIn(board.dots[0], board)

    def test_twelve_lines_with_numbers_of_900_figures(self):
        text = GREATEST[3]
        drawing = Drawing(Book(text), as_rows(any_rows(text, 5, 10 ** 900, 1)))
        board = Board(drawing)
        great = Ratio(10 ** 899 + 1, 10 ** 898 + 7)
        for at in range(8):
            board.put((great + at, -10 ** 899))
        names = (drawing.book.names * 2)[:12]
        for name in names:
            board.step(name)
        board.wipe(7)
        script = board.row
        self.assertEqual(board.dots[6], drawing.led(script, (great + 6, -10 ** 899)))
        self.assertEqual(board.kind(), kind(drawing.book, script)[0])
        other = read_journal(journal(board))
        self.assertEqual((other, other.dots, other.done), (board, board.dots, 21))
        for name in names[::-1]:
            board.step(name)
        self.assertEqual(board.dots[0], (great, Ratio(-10 ** 899)))
        self.refused(Long, 24, board.step, "a")

    def test_any_books(self):
        for seed in range(30):
            book = any_book(seed, 3 + seed % 10)
            board = Board(draw(book))
            board.put((1, 2))
            chance = random.Random(seed)
            steps = [chance.choice(book.names) for _ in range(24)]
            for name in steps:
                board.step(name)
            script = Script(" ".join(steps))
            self.assertEqual((board.row, board.dots, board.kind()),
                             (script, (draw(book).led(script, (1, 2)),), kind(book, script)[0]))


if __name__ == "__main__":
    unittest.main()
