"""Ratios: fractions in least terms."""

from math import gcd

from loosemirrors.checks import is_whole
from loosemirrors.errors import BadRatio, BadText
from loosemirrors.figures import figures_of, integer_of, is_figures


class Ratio:
    """The fraction number / under; its own number and under are in least terms, under at least 1."""

    def __init__(self, number, under=1):
        if not is_whole(number) or not is_whole(under) or under == 0:
            raise BadRatio((number, under))
        shared = gcd(number, under)
        if under < 0:
            shared = -shared
        self.number = number // shared
        self.under = under // shared
        self.text = text_of(self.number, self.under)

    @staticmethod
    def of(text):
        """The Ratio of which this is the text."""
        if not isinstance(text, str):
            raise BadText(text)
        above, stroke, below = text.partition("/")
        if not stroke:
            below = "1"
        if not is_figures(above.removeprefix("-")) or not is_figures(below):
            raise BadText(text)
        number, under = integer_of(above), integer_of(below)
        if under == 0:
            raise BadText(text)
        ratio = Ratio(number, under)
        # Each Ratio has just one text: 2/4, 3/1, -0 and 03 are none.
        if ratio.text != text:
            raise BadText(text)
        return ratio

    def divided(self, other):
        """The Ratio that, multiplied by other, is this one."""
        if not is_number(other):
            raise BadRatio(other)
        number, under = terms_of(other)
        if number == 0:
            raise BadRatio(other)
        return Ratio(self.number * under, self.under * number)

    def __repr__(self):
        return f"Ratio({self.text.replace('/', ', ')})"

    def __eq__(self, other):
        return isinstance(other, Ratio) and self.number == other.number and self.under == other.under

    def __lt__(self, other):
        if not is_number(other):
            return NotImplemented
        number, under = terms_of(other)
        return self.number * under < number * self.under

    def __le__(self, other):
        if not is_number(other):
            return NotImplemented
        number, under = terms_of(other)
        return self.number * under <= number * self.under

    def __gt__(self, other):
        if not is_number(other):
            return NotImplemented
        number, under = terms_of(other)
        return self.number * under > number * self.under

    def __ge__(self, other):
        if not is_number(other):
            return NotImplemented
        number, under = terms_of(other)
        return self.number * under >= number * self.under

    def __neg__(self):
        return Ratio(-self.number, self.under)

    def __add__(self, other):
        if not is_number(other):
            return NotImplemented
        number, under = terms_of(other)
        return Ratio(self.number * under + number * self.under, self.under * under)

    def __radd__(self, other):
        if not is_number(other):
            return NotImplemented
        return self + other

    def __sub__(self, other):
        if not is_number(other):
            return NotImplemented
        number, under = terms_of(other)
        return Ratio(self.number * under - number * self.under, self.under * under)

    def __rsub__(self, other):
        if not is_number(other):
            return NotImplemented
        return -self + other

    def __mul__(self, other):
        if not is_number(other):
            return NotImplemented
        number, under = terms_of(other)
        return Ratio(self.number * number, self.under * under)

    def __rmul__(self, other):
        if not is_number(other):
            return NotImplemented
        return self * other


def is_number(value):
    """Whether a value is a number: a Ratio or an integer."""
    return isinstance(value, Ratio) or is_whole(value)


def terms_of(number):
    """What stands above and what stands under in a Ratio or an integer."""
    if isinstance(number, Ratio):
        return number.number, number.under
    return number, 1


def text_of(number, under):
    """The text of the fraction number / under, which is in least terms."""
    if under == 1:
        return figures_of(number)
    return f"{figures_of(number)}/{figures_of(under)}"
