"""The examples of sections 5 to 9 of the document, word for word."""

import doctest
import unittest

EXAMPLES = r"""
>>> from loosemirrors.books import Book
>>> cross = Book('peg p\nmirror a through p\nmirror b across a through p\nmirror c through p')
>>> [cross.mirrors, cross.pegs, cross.loose, len(cross), cross['b'], cross.told('mirror d is a b c').names]
[('a', 'b', 'c'), ('p',), ('a', 'c'), 4, 'mirror b across a through p', ('p', 'a', 'b', 'c', 'd')]
>>> [cross.without('b').text, 'p' in cross, 'q' in cross]
['peg p\nmirror a through p\nmirror c through p', True, False]

>>> from loosemirrors.drawings import Drawing, draw
>>> from loosemirrors.ratios import Ratio
>>> from loosemirrors.scripts import Script
>>> two = Book('mirror a\nmirror b')
>>> drawn = Drawing(two, ((1, 0, 3), (0, 2, 4)))
>>> [drawn.led(Script('a'), (1, 1)), drawn.led(Script('a b'), (1, 1)), drawn['b'], draw(two).book == two]
[(Ratio(5), Ratio(1)), (Ratio(5), Ratio(3)), (Ratio(0), Ratio(2), Ratio(4)), True]

>>> [Script('a b b a c').plain.text, (Script('a b') * Script('c')).text, (~Script('a b c')).steps, Script('a b').times(2).text]
['c', 'a b c', ('c', 'b', 'a'), 'a b a b']

>>> from loosemirrors.motions import table
>>> turn = table(two, Script('a b'))
>>> [turn.over, turn.sign, turn.powers, turn.terms]
[False, 1, (-1, 1), (('a', False, (-1, 1), Ratio(-1)), ('b', False, (0, 0), Ratio(1)))]
>>> [turn.at(drawn, (1, 1)), ~turn == table(two, Script('b a')), table(cross, Script('a b')).terms, len(table(cross, Script('c')))]
[(Ratio(5), Ratio(3)), True, (('p', False, (0, 0), Ratio(2)),), 2]

>>> from loosemirrors.kinds import kind, same, shows_same
>>> [kind(cross, Script(text))[0] for text in ('a b', 'a c', 'a b c', 'a p', 'a a', 'a b p')]
['half turn', 'turn', 'mirroring', 'mirroring', 'nothing', 'nothing']
>>> [kind(two.told('mirror c'), Script(text))[0] for text in ('a b c', 'a b c a b c', 'a b')]
['glide', 'shift', 'turn']
>>> [same(cross, Script('a b c'), Script('c b a')), same(two, Script('a b'), Script('b a'))[0]]
[('same',), 'apart']
>>> shows_same(two, Script('a b'), Script('b a'), ('apart', drawn, (1, 1)))
False
"""


class Document(unittest.TestCase):
    def test_its_examples(self):
        test = doctest.DocTestParser().get_doctest(EXAMPLES, {}, "document", None, 0)
        found = doctest.DocTestRunner().run(test)
        self.assertEqual((found.attempted, found.failed), (20, 0))


if __name__ == "__main__":
    unittest.main()
