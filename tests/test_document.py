"""The examples of the document, word for word."""

import doctest
import unittest

EXAMPLES = r"""
>>> from loosemirrors.books import Book
>>> cross = Book('peg p\nmirror a through p\nmirror b across a through p\nmirror c through p')
>>> [cross.mirrors, cross.pegs, cross.loose, len(cross), cross['b'], cross.told('mirror d is a b c').names]
[('a', 'b', 'c'), ('p',), ('a', 'c'), 4, 'mirror b across a through p', ('p', 'a', 'b', 'c', 'd')]
>>> [cross.without('b').text, 'p' in cross, 'q' in cross]
['peg p\nmirror a through p\nmirror c through p', True, False]

>>> from loosemirrors.drawings import Drawing, draw
>>> from loosemirrors.ratios import Ratio
>>> from loosemirrors.scripts import Script
>>> two = Book('mirror a\nmirror b')
>>> drawn = Drawing(two, ((1, 0, 3), (0, 2, 4)))
>>> [drawn.led(Script('a'), (1, 1)), drawn.led(Script('a b'), (1, 1)), drawn['b'], draw(two).book == two]
[(Ratio(5), Ratio(1)), (Ratio(5), Ratio(3)), (Ratio(0), Ratio(2), Ratio(4)), True]

>>> [Script('a b b a c').plain.text, (Script('a b') * Script('c')).text, (~Script('a b c')).steps, Script('a b').times(2).text]
['c', 'a b c', ('c', 'b', 'a'), 'a b a b']

>>> from loosemirrors.motions import table
>>> turn = table(two, Script('a b'))
>>> [turn.over, turn.sign, turn.powers, turn.terms]
[False, 1, (-1, 1), (('a', False, (-1, 1), Ratio(-1)), ('b', False, (0, 0), Ratio(1)))]
>>> [turn.at(drawn, (1, 1)), ~turn == table(two, Script('b a')), table(cross, Script('a b')).terms, len(table(cross, Script('c')))]
[(Ratio(5), Ratio(3)), True, (('p', False, (0, 0), Ratio(2)),), 2]

>>> from loosemirrors.kinds import kind, same, shows_same
>>> [kind(cross, Script(text))[0] for text in ('a b', 'a c', 'a b c', 'a p', 'a a', 'a b p')]
['half turn', 'turn', 'mirroring', 'mirroring', 'nothing', 'nothing']
>>> [kind(two.told('mirror c'), Script(text))[0] for text in ('a b c', 'a b c a b c', 'a b')]
['glide', 'shift', 'turn']
>>> [same(cross, Script('a b c'), Script('c b a')), same(two, Script('a b'), Script('b a'))[0]]
[('same',), 'apart']
>>> shows_same(two, Script('a b'), Script('b a'), ('apart', drawn, (1, 1)))
False

>>> from loosemirrors.claims import judged
>>> [judged(cross, claim)[0] for claim in ('peg p is a b', 'mirror a across b through p', 'mirror c is a b c', 'mirror a from b in c')]
['always', 'always', 'not', 'not']
>>> kite = Book('mirror a\npeg p\npeg q from p in a\npeg r on a\npeg s amid p q')
>>> [judged(kite, claim)[0] for claim in ('even p r q r', 'peg s on a', 'peg r on a', 'even p r p q', 'peg r amid p q')]
['always', 'always', 'always', 'not', 'not']

>>> from loosemirrors.least import nothings, shortest
>>> [[row.text for row in nothings(cross, ('p', 'a'), 4)], len(nothings(cross, ('p', 'a', 'b'), 3)), len(nothings(two, ('a', 'b'), 6))]
[['a a', 'p p', 'a p a p', 'p a p a'], 9, 2]
>>> [len(shortest(cross, ('a', 'b'), Script('p'))[1]), shortest(cross, ('p',), Script('a b c c')), shortest(cross, ('a',), Script('b'))]
[2, ('row', Script('p')), ('none',)]

>>> from loosemirrors.looks import left, look
>>> [[row.text for row in found] for found in left(cross, ('a', 'b'), 2, ())]
[['', 'a a', 'b b'], ['a'], ['b'], ['a b', 'b a']]
>>> seen = (Drawing(cross, ((0, 0), (1, 0, 0), (0, 1, 0), (1, 1, 0))), (1, 0), (-1, 0))
>>> [[row.text for row in found] for found in left(cross, ('a', 'b'), 2, (seen,))]
[['a'], ['a b', 'b a']]

>>> from loosemirrors.needing import core, loosened, needed
>>> [loosened(cross, 'b')['b'], needed(cross, 'peg p is a b'), needed(cross, 'mirror a across b through p')]
['mirror b through p', ('a', 'b'), ('a', 'b')]
>>> core(cross, 'peg p is a b').text
'peg p\nmirror a through p\nmirror b across a through p\nmirror c'

>>> from loosemirrors.choosing import cheapest
>>> cheapest(cross, (('c', 'mirror c along a through p', 2), ('c', 'mirror c along b through p', 1)), (('mirror c is a', 'always'),))
('choice', 2, (('c', 'mirror c along a through p', 2),), (((), 0), ((('c', 'mirror c along b through p', 1),), 0)))

>>> from loosemirrors.boards import Board
>>> board = Board(seen[0])
>>> [board.put((1, 0)), board.step('a'), board.step('b'), board.dots, board.row.text, board.kind(), board.done]
[None, None, None, ((Ratio(-1), Ratio(0)),), 'a b', 'half turn', 3]
>>> [board.lay('peg q on a', (0, 5)), board.drawing['q'], board.step('q'), board.undo(), board.row.text, board.judged('peg p is a b')]
[None, (Ratio(0), Ratio(5)), None, None, 'a b', 'always']

>>> from loosemirrors.desk import Desk
>>> from loosemirrors.journals import journal
>>> desk = Desk('mirror a\npeg p\nrow a 1 0 3\nrow p 0 1/2\ndeeds\nput 1 1\nstep a')
>>> [desk.say(line) for line in ('dots', 'step p', 'dots', 'kind', 'judge peg p on a', 'undo', 'row')]
['5,1', 'ok', '-5,0', 'glide', 'not', 'ok', 'a']
>>> journal(desk.board).split('\n')[2:]
['row a 1 0 3', 'row p 0 1/2', 'deeds', 'put 1 1', 'step a']
"""


class Document(unittest.TestCase):
    def test_its_examples(self):
        test = doctest.DocTestParser().get_doctest(EXAMPLES, {}, "document", None, 0)
        found = doctest.DocTestRunner().run(test)
        self.assertEqual((found.attempted, found.failed), (45, 0))


if __name__ == "__main__":
    unittest.main()
