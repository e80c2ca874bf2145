import unittest

from loosemirrors.boards import Board
from loosemirrors.claims import judged
from loosemirrors.desk import Desk
from loosemirrors.drawings import draw
from loosemirrors.books import Book
from loosemirrors.errors import (
    BadClaim, BadJournal, BadLine, BadRows, BadSay, Full, Long, NoDot, NoName, NothingToRedo, NothingToUndo,
)
from loosemirrors.journals import journal, read_journal
from loosemirrors.ratios import Ratio
from tests.refusals import Refusals
from tests.samples import no_strings
from tests.shelf import GREATEST
from tests.test_boards import state, whole_state

HEAD = "mirror a\npeg p\nrow a 1 0 3\nrow p 0 1/2\ndeeds"

# Lines of none of the forms.
NO_LINES = (
    "", " ", "x", "put", "put 1", "put 1 1 1", "put 1 x", "put 1 2/4", "put +1 1", "put -0 1", "put 01 1", "put 1 1/0", "put  1 1",
    "put 1  1", "put 1 1 ", " put 1 1", "put 1,1", "Put 1 1", "PUT 1 1", "put (1, 1)", "put 1.0 1", "put 1 3/1", "put a p",
    "step", "step ", "step a p", "step  a", " step a", "step a ", "Step a", "lay", "lay 1 2", "lay 1 2 as", "lay 1 2 as ",
    "lay as peg q", "lay 1 2 peg q", "lay 1 2  as peg q", "lay 1 2 as  peg q", "lay 1 2 as peg q ", "lay 1 x as peg q",
    "lay 1 2/4 as peg q", "lay 1 2 As peg q", " lay 1 2 as peg q", "lay peg q as 1 2", "wipe", "wipe ", "wipe x", "wipe 1/2",
    "wipe 0 0", "wipe 00", "wipe -0", "wipe +0", "wipe  0", "wipe 0 ", "wipe 0/1", "wipe 2/1", "undo 1", "undo ", " undo",
    "Undo", "undo undo", "redo 1", "redo ", "Redo", "dots ", "dots 1", " dots", "dots dots", "Dots", "dot", "row ", "row a", "rows",
    "row a 1 0 3", "kind ", "kind a", "Kind", "kinds", "judge", "judge ", "judge  peg p on a", "judge peg p on  a",
    "judge peg p on a ", " judge peg p on a", "Judge peg p on a", "judged peg p on a", "deeds", "peg q", "keep", "trial", "copy",
    "put 1 1\n", "step a\n", "\nstep a", "step a\nstep p", "\n", "undo\n", "dots\n", "judge peg p\non a", "lay 1 2 as peg q\n",
)


class Says(Refusals):
    def desk(self, *lines):
        desk = Desk(HEAD)
        for line in lines:
            self.assertEqual(desk.say(line), "ok")
        return desk

    def answers(self, desk, *pairs):
        for line, answer in pairs:
            with self.subTest(line=line):
                found = desk.say(line)
                self.assertEqual(found, answer)
                self.assertIs(type(found), str)

    def test_a_new_desk(self):
        desk = Desk(HEAD)
        self.assertIs(type(desk.board), Board)
        self.assertIn("board", vars(desk))
        self.assertEqual(desk.board, read_journal(HEAD))
        self.answers(desk, ("dots", ""), ("row", ""), ("kind", "nothing"))

    def test_each_line(self):
        desk = Desk(HEAD)
        self.answers(
            desk, ("put 1 1", "ok"), ("dots", "1,1"), ("put -1/2 7", "ok"), ("dots", "1,1 -1/2,7"), ("step a", "ok"),
            ("dots", "5,1 13/2,7"), ("row", "a"), ("kind", "mirroring"), ("step p", "ok"), ("row", "a p"), ("kind", "glide"),
            ("dots", "-5,0 -13/2,-6"), ("lay 3 4/5 as peg q on a", "ok"), ("judge peg q on a", "always"),
            ("judge peg p on a", "not"), ("judge mirror a is q a q", "always"), ("step q", "ok"), ("row", "a p q"),
            ("dots", "11,8/5 25/2,38/5"), ("wipe 0", "ok"), ("dots", "25/2,38/5"), ("undo", "ok"), ("undo", "ok"),
            ("row", "a p"), ("dots", "-5,0 -13/2,-6"), ("redo", "ok"), ("row", "a p q"), ("redo", "ok"), ("wipe 0", "ok"),
            ("dots", ""), ("lay 0 -2 -1 as mirror b across a through p", "ok"), ("judge peg p is a b", "not"),
            ("judge mirror a across b through q", "always"), ("judge mirror a across b through p", "not"), ("judge mirror b through p", "always"), ("row", "a p q"),
        )
        self.assertEqual(journal(desk.board), HEAD + "\nput 1 1\nput -1/2 7\nstep a\nstep p\nlay 3 4/5 as peg q on a\nstep q"
                         "\nwipe 0\nwipe 0\nlay 0 -2 -1 as mirror b across a through p")

    def test_a_desk_of_deeds(self):
        desk = Desk(HEAD + "\nput 1 1\nstep a")
        self.answers(desk, ("dots", "5,1"), ("undo", "ok"), ("dots", "1,1"), ("redo", "ok"), ("undo", "ok"), ("undo", "ok"),
                     ("dots", ""))
        self.assertIsNone(self.refused(NothingToUndo, None, desk.say, "undo"))

    def test_it_says_what_the_board_does(self):
        desk = self.desk("put 1 1", "step a", "lay 3 4/5 as peg q on a")
        board = Board(desk.board.first)
        board.put((1, 1))
        board.step("a")
        board.lay("peg q on a", (3, Ratio(4, 5)))
        self.assertEqual(desk.board, board)
        self.assertEqual(state(desk.board), state(board))
        desk.board.step("q")
        self.answers(desk, ("row", "a q"), ("judge even p q p q", "always"), ("judge peg q on a", judged(
            board.drawing.book, "peg q on a")[0]))

    def test_within_a_block(self):
        desk = self.desk("put 1 1")
        with desk.board.trial():
            self.answers(desk, ("step a", "ok"), ("undo", "ok"), ("undo", "ok"), ("dots", ""))
        self.answers(desk, ("dots", "1,1"), ("row", ""))

    def test_lines_of_no_form(self):
        desk = self.desk("put 1 1", "step a", "step p", "undo")
        before = whole_state(desk.board)
        for line in NO_LINES:
            with self.subTest(line=line):
                self.assertIs(self.refused(BadSay, line, desk.say, line), line)
        self.assertEqual(whole_state(desk.board), before)

    def test_no_strings(self):
        desk = self.desk("put 1 1")
        for value in no_strings() + [b"dots", ["dots"], ("put", 1, 1)]:
            with self.subTest(value=value):
                self.assertIs(self.refused(BadSay, value, desk.say, value), value)

    def test_what_the_board_raises(self):
        desk = self.desk("put 1 1", "step a", "step p", "undo")
        before = whole_state(desk.board)
        for line, error, value in (
            ("step q", NoName, "q"), ("step A", NoName, "A"), ("step 1", NoName, "1"), ("step p,a", NoName, "p,a"),
            ("step undo", NoName, "undo"), ("step !", NoName, "!"), ("step abcdefghij", NoName, "abcdefghij"),
            ("wipe 1", NoDot, 1), ("wipe -1", NoDot, -1), ("wipe 12345678901234567890", NoDot, 12345678901234567890),
            ("lay 1 2 as peg p", BadLine, "peg p"), ("lay 1 as x", BadLine, "x"), ("lay 1 2 as as", BadLine, "as"),
            ("lay 1 2 as peg q on b", BadLine, "peg q on b"), ("lay 1 2 as peg as as", BadLine, "peg as as"),
            ("lay 1 1/2 as peg q on a", BadRows, (Ratio(1), Ratio(1, 2))), ("lay 1 as peg q", BadRows, (Ratio(1),)),
            ("lay 1 2 3 as peg q", BadRows, (Ratio(1), Ratio(2), Ratio(3))), ("lay 0 0 1 as mirror b", BadRows, (
                Ratio(0), Ratio(0), Ratio(1))), ("lay 1 2 as mirror b", BadRows, (Ratio(1), Ratio(2))),
            ("lay 1 2 3 4 as mirror b", BadRows, tuple(Ratio(number) for number in (1, 2, 3, 4))),
            ("judge peg p on b", BadClaim, "peg p on b"), ("judge x", BadClaim, "x"), ("judge mirror a", BadClaim, "mirror a"),
            ("judge judge", BadClaim, "judge"), ("judge even p p p p", BadClaim, "even p p p p"),
            ("judge undo", BadClaim, "undo"), ("judge put 1 1", BadClaim, "put 1 1"),
        ):
            with self.subTest(line=line):
                self.refused(error, value, desk.say, line)
        self.assertEqual(whole_state(desk.board), before)
        desk.say("redo")
        self.assertIsNone(self.refused(NothingToRedo, None, desk.say, "redo"))

    def test_what_the_board_raises_for_too_many(self):
        desk = self.desk(*["put 1 1"] * 8 + ["step a"] * 24)
        self.refused(Full, 8, desk.say, "put 2 2")
        self.refused(Long, 24, desk.say, "step p")
        self.refused(NoName, "q", desk.say, "step q")
        self.answers(desk, ("dots", " ".join(["1,1"] * 8)), ("row", " ".join(["a"] * 24)), ("kind", "nothing"))
        for name in "bcdefghijk":
            desk.say(f"lay 1 1 as peg {name}")
        self.refused(BadLine, "peg z", desk.say, "lay 1 1 as peg z")
        self.refused(NothingToRedo, None, desk.say, "redo")
        for _ in range(42):
            desk.say("undo")
        self.refused(NothingToUndo, None, desk.say, "undo")
        self.assertEqual(desk.board, Desk(HEAD).board)

    def test_names_that_are_words_of_lines(self):
        desk = Desk("mirror as\npeg undo\nmirror mirror through undo\nrow as 1 0 0\nrow undo 1 1\nrow mirror 1 1 2\ndeeds")
        self.answers(
            desk, ("lay 5 6 as peg put", "ok"), ("lay 1 1 2 as mirror dots is mirror", "ok"), ("lay 0 3 as peg row on as", "ok"),
            ("step undo", "ok"), ("step as", "ok"), ("step put", "ok"), ("row", "undo as put"), ("judge peg row on as", "always"),
            ("judge mirror dots is mirror", "always"), ("judge even row put put row", "always"), ("undo", "ok"),
            ("row", "undo as"),
        )

    def test_bad_journals(self):
        for value, number in ((None, 0), (3, 0), ([HEAD], 0), ("", 1), (HEAD + "\n", 6), (HEAD + "\nundo", 6),
                              (HEAD[:-6], 5), (HEAD.replace("row p", "row q"), 4)):
            with self.subTest(value=value):
                self.refused(BadJournal, number, Desk, value)

    def test_names_of_the_arguments(self):
        self.assertEqual(Desk(text=HEAD).say(line="put 1 1"), "ok")

    def test_greatest(self):
        for text in GREATEST:
            board = Board(draw(Book(text)))
            desk = Desk(journal(board))
            names = (board.first.book.names * 2)[:24]
            for at in range(8):
                desk.say(f"put {at} -1/{at + 2}")
                board.put((at, Ratio(-1, at + 2)))
            for name in names:
                desk.say(f"step {name}")
                board.step(name)
            self.assertEqual(desk.board, board)
            self.assertEqual(desk.say("dots"), " ".join(f"{x.text},{y.text}" for x, y in board.dots))
            self.assertEqual([desk.say("row"), desk.say("kind")], [" ".join(names), board.kind()])
            for line in text.split("\n")[-3:]:
                self.assertEqual(desk.say(f"judge {line}"), "always")

    def test_numbers_of_900_figures(self):
        great = "7" * 900
        desk = self.desk(f"put {great} 1/{great}", f"lay 3 {great} as peg q on a", "step q")
        self.answers(desk, ("dots", f"{6 - int(great)},{Ratio(2 * int(great) ** 2 - 1, int(great)).text}"), ("undo", "ok"),
                     ("dots", f"{great},1/{great}"))


if __name__ == "__main__":
    unittest.main()
