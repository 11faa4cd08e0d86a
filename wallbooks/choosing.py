"""The cheapest changes of a book, among some offers, with which the read rule alone keeps rivals apart."""

from wallbooks.apart import apart, shows_apart
from wallbooks.errors import BadOffers
from wallbooks.fences import plain
from wallbooks.names import is_integer, is_lot


def cheapest(book, offers):
    """Return ("choice", price, choice, reasons) of the first choice that serves, ("none", reasons) if none does."""
    reasons = []
    for price, choice in choices_of(book, offers):
        told = apart(plain(changed(book, offers, choice)))
        if told[0] == "apart":
            return "choice", price, choice, tuple(reasons)
        reasons.append((choice, told[1], told[2]))
    return "none", tuple(reasons)


def shows_cheapest(book, offers, value):
    """Tell whether any value is a result that is right for cheapest of these offers."""
    told = cheapest(book, offers)
    if not isinstance(value, tuple) or len(value) != len(told) or value[0] != told[0]:
        return False
    if told[0] == "choice" and not (is_integer(value[1]) and value[1] == told[1] and is_choice(value[2], told[2])):
        return False
    ahead = [reason[0] for reason in told[-1]]
    return are_reasons(book, offers, ahead, value[-1])


def choices_of(book, offers):
    """Return (price, choice) of all choices, in sequence; BadOffers unless these are offers."""
    if not are_offers(book, offers):
        raise BadOffers(offers)
    choices = [()]
    for number in range(len(offers)):
        choices = choices + [(*choice, number) for choice in choices]
    ranked = sorted([(sum([offers[at][-1] for at in choice]), len(choice), choice) for choice in choices])
    return [(price, choice) for price, _, choice in ranked]


def changed(book, offers, choice):
    """Return the book as all offers of a choice change it."""
    for number in choice:
        if offers[number][0] == "rivals":
            one, other = offers[number][1:3]
            book = book.with_rivals(one, other)
        else:
            kind, word, client = offers[number][1:4]
            book = book.without_right(kind, word, client)
    return book


def are_offers(book, value):
    """Tell whether any value is a tuple of one to four offers, no two of which are alike but for their prices."""
    if not isinstance(value, tuple) or not 1 <= len(value) <= 4:
        return False
    if not all([is_offer(book, offer) for offer in value]):
        return False
    return len(set([offer[:-1] for offer in value])) == len(value)


def is_offer(book, value):
    """Tell whether any value is an offer by the book as it is."""
    if not isinstance(value, tuple) or len(value) not in (4, 5):
        return False
    if not is_integer(value[-1]) or not 1 <= value[-1] <= 99:
        return False
    return is_offer_of_rivals(book, value) or is_offer_to_stop(book, value)


def is_offer_of_rivals(book, value):
    """Tell whether a tuple names two unlike clients in sequence that are no rivals, to be treated as rivals."""
    if len(value) != 4 or value[0] != "rivals":
        return False
    return is_lot(book.clients, value[1:3]) and value[1:3] not in book.rivals


def is_offer_to_stop(book, value):
    """Tell whether a tuple names a right that a kind has, to be lost."""
    if len(value) != 5 or value[0] != "stop" or value[1] not in book.kinds:
        return False
    kind, word, client = value[1:4]
    if word == "look":
        return client in book.looks(kind)
    return word == "write" and client in book.writes(kind)


def is_choice(value, choice):
    """Tell whether any value is just this choice."""
    return isinstance(value, tuple) and all([is_integer(number) for number in value]) and value == choice


def are_reasons(book, offers, choices, value):
    """Tell whether any value tells of each of these choices, in sequence, why it does not serve."""
    if not isinstance(value, tuple) or len(value) != len(choices):
        return False
    return all([is_reason(book, offers, choice, reason) for choice, reason in zip(choices, value)])


def is_reason(book, offers, choice, value):
    """Tell whether any value is the choice with a way round by plain in the book that it makes."""
    if not isinstance(value, tuple) or len(value) != 3 or not is_choice(value[0], choice):
        return False
    return shows_apart(plain(changed(book, offers, choice)), ("round",) + value[1:])
