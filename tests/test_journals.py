import random
import unittest

from loosemirrors.boards import Board
from loosemirrors.books import Book
from loosemirrors.desk import Desk
from loosemirrors.drawings import Drawing, draw
from loosemirrors.errors import BadJournal, NothingToRedo, NothingToUndo
from loosemirrors.journals import journal, read_journal
from loosemirrors.ratios import Ratio
from tests.refusals import Refusals
from tests.samples import no_strings
from tests.shelf import CROSS, GREATEST, any_book
from tests.test_boards import any_deeds, fresh, state

HALF = Ratio(1, 2)
HEAD = "mirror a\npeg p\nrow a 1 0 3\nrow p 0 1/2\ndeeds"
# Each kind of deed, lines that are laid with two numbers and with three.
LONG = (HEAD + "\nput 1 1\nput -1/2 7\nstep a\nlay 3 4/5 as peg q on a\nlay 0 -2 -1 as mirror b across a through p"
        "\nstep q\nwipe 0\nstep b\nput 0 0\nwipe 1")


def great_journal():
    """A journal with numbers of 900 figures, which has fewer than 4000 characters."""
    great = "1" * 900
    return f"peg p\nrow p {great} 1/{great}\ndeeds\nput -{great} 0\nstep p\nput 1 1"


class Journal(unittest.TestCase):
    def test_a_new_board(self):
        self.assertEqual(journal(fresh()), CROSS + "\nrow p 0 0\nrow a 1 0 0\nrow b 0 1 0\nrow c 1 1 0\ndeeds")

    def test_each_kind_of_deed(self):
        board = Board(Drawing(Book("mirror a\npeg p"), ((Ratio(1), 0, 3), (0, HALF))))
        board.put((1, Ratio(1)))
        board.put((Ratio(1, -2), 7))
        board.step("a")
        board.lay("peg q on a", (3, Ratio(4, 5)))
        board.lay("mirror b across a through p", (0, -2, -1))
        board.step("q")
        board.wipe(0)
        board.step("b")
        board.put((0, 0))
        board.wipe(1)
        self.assertEqual(journal(board), LONG)
        self.assertIs(type(journal(board)), str)

    def test_the_first_drawing_and_the_deeds_that_stand(self):
        board = fresh()
        before = journal(board)
        board.lay("peg q", (1, 2))
        board.step("q")
        board.undo()
        self.assertEqual(journal(board), before + "\nlay 1 2 as peg q")
        with board.trial():
            board.step("a")
            self.assertEqual(journal(board), before + "\nlay 1 2 as peg q\nstep a")
        board.undo()
        self.assertEqual(journal(board), before)
        board.redo()
        board.redo()
        self.assertEqual(journal(board), before + "\nlay 1 2 as peg q\nstep q")

    def test_a_refused_deed_leaves_no_line(self):
        board = fresh()
        with self.assertRaises(ValueError):
            board.step("z")
        self.assertEqual(journal(board), journal(fresh()))

    def test_names_of_the_arguments(self):
        self.assertEqual(journal(board=read_journal(text=LONG)), LONG)


class ReadJournal(Refusals):
    def wrong(self, text, number):
        for deed in (read_journal, Desk):
            self.assertIs(type(self.refused(BadJournal, number, deed, text)), int)

    def test_it_is_read_back(self):
        for text in (HEAD, LONG, HEAD.replace("row a 1 0 3", "row a -2/3 0 1"), great_journal()):
            board = read_journal(text)
            self.assertIs(type(board), Board)
            self.assertEqual(journal(board), text)
            self.assertEqual(read_journal(text), board)
            self.assertEqual(board.done, len(text.split("deeds")[1].split("\n")) - 1)
            for _ in range(board.done):
                board.undo()
            self.refused(NothingToUndo, None, board.undo)
            self.assertEqual(journal(board), text.split("deeds")[0] + "deeds")

    def test_any_boards(self):
        for seed in range(60):
            board = fresh()
            any_deeds(board, random.Random(seed), 1 + seed % 30)
            other = read_journal(journal(board))
            self.assertEqual(other, board)
            self.assertEqual(state(other), state(board))
            self.refused(NothingToRedo, None, other.redo)
            for _ in range(board.done):
                board.undo()
                other.undo()
                self.assertEqual(state(other), state(board))

    def test_any_books(self):
        for seed in range(50):
            book = any_book(seed, 2 + seed % 11)
            board = Board(draw(book))
            board.put((seed, Ratio(1, 1 + seed)))
            board.step(book.names[-1])
            self.assertEqual(state(read_journal(journal(board))), state(board))

    def test_missing_lines(self):
        lines = LONG.split("\n")
        for many in range(1, 5):
            self.wrong("\n".join(lines[:many]), many + 1)
        self.wrong("\n".join(CROSS.split("\n")), 5)
        for many in range(5, len(lines) + 1):
            self.assertEqual(read_journal("\n".join(lines[:many])).done, many - 5)
        self.wrong("peg p\nrow p 1 1", 3)
        self.wrong("peg p", 2)

    def test_the_empty_text_and_empty_lines(self):
        self.wrong("", 1)
        self.wrong("\n", 1)
        self.wrong("deeds", 1)
        self.wrong("row p 1 1", 1)
        self.wrong("row p 1 1\npeg p\nrow p 1 1\ndeeds", 1)
        self.wrong("\n" + HEAD, 1)
        lines = LONG.split("\n")
        for at in range(len(lines) + 1):
            self.wrong("\n".join(lines[:at] + [""] + lines[at:]), at + 1)
        self.wrong(HEAD + "\n", 6)
        self.wrong("peg p\n", 2)
        self.wrong("peg p\nrow p 1 1\n", 3)

    def test_no_strings(self):
        for value in no_strings() + [LONG.encode()]:
            with self.subTest(value=value):
                self.wrong(value, 0)

    def test_lines_of_the_book(self):
        for text, number in (
            ("mirror a\nmirror a\nrow a 1 0 3\ndeeds", 2), ("mirror a\npeg p on b\nrow a 1 0 3", 2), ("x\nrow a 1 0 0", 1),
            ("mirror a\nrows a 1 0 3\ndeeds", 2), ("mirror a\nrow\ndeeds", 2), ("mirror a\nDeeds\ndeeds", 2),
            ("mirror a\ndeeds \nrow a 1 0 3\ndeeds", 2), ("mirror a\nmirror b\nmirror c is a b\nrow a 1 0 3", 3),
            ("\n".join(f"peg {name}" for name in "abcdefghijklm") + "\nrow a 1 0", 13), ("mirror a\n\nrow a 1 0 3", 2),
            ("mirror a \nrow a 1 0 3\ndeeds", 1), ("mirror a\nput 1 1\nrow a 1 0 3\ndeeds", 2),
        ):
            with self.subTest(text=text):
                self.wrong(text, number)

    def test_lines_of_rows(self):
        for row, number in (
            ("row a 1 0", 3), ("row a 1 0 3 4", 3), ("row a", 3), ("row a ", 3), ("row p 1 0 3", 3), ("row b 1 0 3", 3),
            ("row a 0 0 3", 3), ("row a 1 0 2/4", 3), ("row a 1 0 +3", 3), ("row a 1 -0 3", 3), ("row a 1 0 03", 3),
            ("row a 1 0 3/1", 3), ("row a 1 0 x", 3), ("row a 1 0  3", 3), ("row a  1 0 3", 3), ("row a 1 0 3 ", 3),
            ("row  a 1 0 3", 3), ("deeds", 3), ("row a 1,0,3", 3), ("row a 1 0 1/0", 3), ("row a 1 0 0.5", 3),
        ):
            with self.subTest(row=row):
                self.wrong(LONG.replace("row a 1 0 3", row), number)
        for row in ("row p 0", "row p 0 1/2 3", "row a 0 1/2", "row q 0 1/2", "row p 0 0/2", "deeds", "row", "put 1 1"):
            with self.subTest(row=row):
                self.wrong(LONG.replace("row p 0 1/2", row), 4)

    def test_rows_by_which_a_line_is_not_what_it_says(self):
        cross = CROSS + "\nrow p 0 0\nrow a 1 0 0\nrow b 0 1 0\nrow c 1 1 0\ndeeds"
        self.assertEqual(read_journal(cross), fresh())
        for row, other, number in (
            ("row p 0 0", "row p 1 0", 6), ("row p 0 0", "row p 0 1", 7), ("row a 1 0 0", "row a 1 0 1", 6),
            ("row a 1 0 0", "row a 1 1 0", 7), ("row b 0 1 0", "row b 1 1 0", 7), ("row b 0 1 0", "row b 0 1 2", 7),
            ("row c 1 1 0", "row c 1 1 1", 8), ("row c 1 1 0", "row c 0 0 0", 8),
        ):
            with self.subTest(row=row, other=other):
                self.wrong(cross.replace(row, other), number)
        # The first wrong line is told, though a later one has no form.
        self.wrong(cross.replace("row b 0 1 0", "row b 1 1 0").replace("row c 1 1 0", "row c"), 7)
        self.wrong(cross.replace("row b 0 1 0", "row b 1 1 0").replace("\ndeeds", ""), 7)

    def test_the_line_deeds(self):
        for line in ("deed", "deeds ", " deeds", "Deeds", "row p 0 1/2", "put 1 1", ""):
            with self.subTest(line=line):
                self.wrong(LONG.replace("\ndeeds", "\n" + line), 5)

    def test_lines_of_deeds(self):
        for line in (
            "put 1", "put 1 1 1", "put", "put ", "put 1 2/4", "put +3 1", "put -0 1", "put 03 1", "put 1 x", "put  1 1",
            "put 1 1 ", " put 1 1", "Put 1 1", "put 1 1/0", "put 1,1", "put (1, 1)", "put 1 1.0",
            "step", "step ", "step q", "step a p", "step  a", "step a ", "steps a", "step A",
            "lay 1 2 as peg a", "lay 1 2 as peg q ", "lay 1 2 peg q", "lay as peg q", "lay 1 2 as", "lay 1 2 as ", "lay",
            "lay 1 as peg q", "lay 1 2 3 as peg q", "lay 1 2 as as peg q", "lay 1 2/4 as peg q", "lay 1 2 as peg q on a",
            "lay 0 0 3 as mirror b", "lay 1 2 as mirror b", "lay 1 2 3 as mirror b through p", "lay 1 2  as peg q",
            "lay 1 2 as  peg q", "lay 1 2 as mirror", "lay x 2 as peg q", "lay 1 2 as peg q on b", "lay 1 2 as even",
            "wipe", "wipe 0", "wipe 1", "wipe -1", "wipe x", "wipe 1/2", "wipe 0 0", "wipe 00", "wipe -0", "wipe ",
            "undo", "redo", "dots", "row", "kind", "judge peg p on a", "deeds", "row a 1 0 3", "peg q", "keep", "x", " ",
        ):
            with self.subTest(line=line):
                self.wrong(HEAD + "\n" + line, 6)
                self.wrong(HEAD + "\nstep a\n" + line + "\nstep p\nx", 7)

    def test_refused_deeds(self):
        self.wrong(HEAD + "\nput 1 1" * 9, 14)
        self.wrong(HEAD + "\nstep a" * 25 + "\nstep p", 30)
        self.assertEqual(read_journal(HEAD + "\nstep a" * 24).done, 24)
        self.wrong(HEAD + "\nput 1 1\nwipe 1", 7)
        self.wrong(HEAD + "\nput 1 1\nwipe 0\nwipe 0", 8)
        self.wrong(HEAD + "\nlay 1 1 as peg q\nlay 1 1 as peg q", 7)
        self.wrong(HEAD + "\nstep q\nlay 1 1 as peg q", 6)
        self.wrong(HEAD + "".join(f"\nlay 1 1 as peg {name}" for name in "bcdefghijklm"), 16)
        self.assertEqual(read_journal(HEAD + "\nlay 3 1 as peg as on a\nlay 1 0 3 as mirror lay is a\nstep as").row.text, "as")

    def first_wrong(self, lines):
        """The number of the first wrong line; None if there is none."""
        try:
            read_journal("\n".join(lines))
        except BadJournal as error:
            return error.value
        return None

    def test_a_line_out(self):
        lines = LONG.split("\n")
        found = [self.first_wrong(lines[:at] + lines[at + 1:]) for at in range(len(lines))]
        self.assertEqual(found, [2, 3, 3, 4, 5, 14, 14, None, 10, 12, None, None, None, 14, None])

    def test_a_line_twice(self):
        lines = LONG.split("\n")
        found = [self.first_wrong(lines[:at + 1] + lines[at:]) for at in range(len(lines))]
        self.assertEqual(found, [2, 3, 4, 5, 6, None, None, None, 10, 11, None, 16, None, None, 16])

    def test_neighbouring_lines_exchanged(self):
        lines = LONG.split("\n")
        found = [self.first_wrong(lines[:at] + [lines[at + 1], lines[at]] + lines[at + 2:]) for at in range(len(lines) - 1)]
        self.assertEqual(found, [3, 3, 3, 4, 5, None, None, None, None, None, None, None, None, 14])
        self.assertEqual(self.first_wrong(lines[:8] + [lines[10], lines[9], lines[8]] + lines[11:]), 9)

    def test_a_word_more_or_less(self):
        lines = LONG.split("\n")
        for at, line in enumerate(lines):
            words = line.split(" ")
            for other in (words + ["x"], words + [""], words[:-1], ["x"] + words, words[1:]):
                text = "\n".join(lines[:at] + [" ".join(other)] + lines[at + 1:])
                with self.subTest(line=other):
                    self.wrong(text, at + 1)

    def test_greatest(self):
        for text in GREATEST:
            board = Board(draw(Book(text)))
            for at in range(8):
                board.put((at, Ratio(-at, 7)))
            for name in (board.drawing.book.names * 2)[:24]:
                board.step(name)
            other = read_journal(journal(board))
            self.assertEqual(state(other), state(board))
            self.assertEqual(other.done, 32)

    def test_what_was_told_is_read_back_however_many_figures_it_has(self):
        board = read_journal(great_journal())
        board.lay("peg q", board.dots[0])
        for _ in range(10):
            board.step("p")
            board.step("q")
        board.put(board.dots[0])
        self.assertGreater(len(journal(board)), 4000)
        self.assertEqual(state(read_journal(journal(board))), state(board))


class Example(unittest.TestCase):
    def test_example(self):
        desk = Desk('mirror a\npeg p\nrow a 1 0 3\nrow p 0 1/2\ndeeds\nput 1 1\nstep a')
        self.assertEqual([desk.say(line) for line in ('dots', 'step p', 'dots', 'kind', 'judge peg p on a', 'undo', 'row')],
                         ['5,1', 'ok', '-5,0', 'glide', 'not', 'ok', 'a'])
        self.assertEqual(journal(desk.board).split('\n')[2:], ['row a 1 0 3', 'row p 0 1/2', 'deeds', 'put 1 1', 'step a'])


if __name__ == "__main__":
    unittest.main()
