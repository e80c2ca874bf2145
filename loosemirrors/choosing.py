"""Choosing: the cheapest lines by which wishes come true."""

from loosemirrors.checks import is_whole
from loosemirrors.claims import claim_of, is_always
from loosemirrors.errors import BadClaim, BadOffers, BadWishes
from loosemirrors.lines import has_names, line_of
from loosemirrors.needing import book_with

MOST_OFFERS = 4
MOST_WISHES = 3
MOST_PRICE = 9
# More than there are choices.
MANY = 100


def cheapest(book, offers, wishes):
    """The first choice of offers by which all wishes come true, and why those ahead of it do not count."""
    if not are_offers(book, offers):
        raise BadOffers(offers)
    if not are_wishes(book, wishes):
        raise BadWishes(wishes)
    reasons = []
    for choice in choices_of(offers):
        chosen = book_with(book, {name: line for name, line, _ in choice})
        if chosen is not None:
            wrong = first_wrong(chosen, wishes)
            if wrong is None:
                return "choice", price_of(choice), choice, tuple(reasons)
            reasons.append((choice, wrong))
    return "none", tuple(reasons)


def are_offers(book, offers):
    """Whether a value is an ascending tuple of one to four offers."""
    if not isinstance(offers, tuple) or len(offers) < 1 or len(offers) > MOST_OFFERS:
        return False
    if not all([is_offer(book, offer) for offer in offers]):
        return False
    return all([offer < behind for offer, behind in zip(offers, offers[1:])])


def is_offer(book, offer):
    """Whether a value is a name of the book, a line that can tell it and a price."""
    if not isinstance(offer, tuple) or len(offer) != 3:
        return False
    name, text, price = offer
    if name not in book.names or not isinstance(text, str):
        return False
    if not is_whole(price) or price < 1 or price > MOST_PRICE:
        return False
    at = book.names.index(name)
    line = line_of(text)
    if line is None or line.name != name or line.word != book.lines[at].word:
        return False
    return has_names(line, {own.name: own.word for own in book.lines[:at]})


def are_wishes(book, wishes):
    """Whether a value is a tuple of one to three wishes."""
    if not isinstance(wishes, tuple) or len(wishes) < 1 or len(wishes) > MOST_WISHES:
        return False
    return all([is_wish(book, wish) for wish in wishes])


def is_wish(book, wish):
    """Whether a value is a claim of the book and a word that can be told of it."""
    if not isinstance(wish, tuple) or len(wish) != 2:
        return False
    try:
        claim_of(book, wish[0])
    except BadClaim:
        return False
    return wish[1] == "always" or wish[1] == "not"


def choices_of(offers):
    """All choices of offers, by their prices, then by how many offers they have, then as tuples."""
    by_place = {}
    for place, choice in enumerate(by_length(offers)):
        by_place[price_of(choice) * MANY + place] = choice
    return [by_place[place] for place in sorted([int(place) for place in by_place])]


def by_length(offers):
    """All choices of ascending offers, by how many offers they have, then as tuples."""
    longest = [()]
    found = [()]
    for _ in offers:
        longest = [choice + (offer,) for choice in longest for offer in offers if can_follow(choice, offer)]
        found = found + longest
    return found


def can_follow(choice, offer):
    """Whether a choice can have an offer as its last one."""
    return not choice or (choice[-1] < offer and choice[-1][0] != offer[0])


def price_of(choice):
    """The sum of the prices of offers."""
    return sum([offer[2] for offer in choice])


def first_wrong(book, wishes):
    """The number of the first wish that does not come true; None if all do."""
    for number, (claim, word) in enumerate(wishes):
        if is_always(book, claim) != (word == "always"):
            return number
    return None
