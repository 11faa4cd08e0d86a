"""Lots without rivals: whether "not rivals" is passed on, and the fewest such lots that have all clients."""

from wallbooks.names import in_sequence, is_integer, is_lot
from wallbooks.runs import has_rivals


def passed_on(book):
    """Return ("lots", lots) if "not rivals" is passed on from two to three, otherwise ("three", three) of which not."""
    for one in book.clients:
        for other in book.clients:
            for third in book.clients:
                if breaks(book, (one, other, third)):
                    return "three", (one, other, third)
    return "lots", lots_of_like(book)


def shows_passed_on(book, value):
    """Tell whether any value is a result that is right for passed_on of this book."""
    told = passed_on(book)
    if told[0] == "lots":
        return value == told
    return isinstance(value, tuple) and len(value) == 2 and value[0] == "three" and is_three(book, value[1])


def needed(book):
    """Return (number, lots): the fewest lots without rivals that have each client in just one of them."""
    partings = [()]
    for client in book.clients:
        partings = [longer for parting in partings for longer in partings_with(book, parting, client)]
    lots = min(partings, key=len)
    return len(lots), lots


def shows_needed(book, value):
    """Tell whether any value is a result that is right for needed of this book."""
    if not isinstance(value, tuple) or len(value) != 2:
        return False
    number, lots = value
    return is_integer(number) and is_parting(book, lots) and number == len(lots) == needed(book)[0]


def breaks(book, three):
    """Tell whether the first and the third of three clients are rivals, but neither of them is the second one's."""
    one, other, third = three
    return book.are_rivals(one, third) and not book.are_rivals(one, other) and not book.are_rivals(other, third)


def is_three(book, value):
    """Tell whether any value is three clients of which "not rivals" is not passed on."""
    if not isinstance(value, tuple) or len(value) != 3 or not all([client in book for client in value]):
        return False
    return breaks(book, value)


def lots_of_like(book):
    """Return the lots of those who are no rivals, by their first clients, where "not rivals" is passed on."""
    lots = []
    for client in book.clients:
        lot = tuple([other for other in book.clients if not book.are_rivals(client, other)])
        if lot not in lots:
            lots.append(lot)
    return tuple(lots)


def partings_with(book, parting, client):
    """Return all ways to add one more client to a parting: to one of its lots without rivals, or as a lot."""
    found = [
        parting[:at] + ((*lot, client),) + parting[at + 1:]
        for at, lot in enumerate(parting)
        if not any([book.are_rivals(client, other) for other in lot])
    ]
    found.append((*parting, (client,)))
    return found


def is_parting(book, value):
    """Tell whether any value is lots without rivals that have each client in just one, by their first clients."""
    if not isinstance(value, tuple) or not all([is_lot(book.clients, lot) and lot != () for lot in value]):
        return False
    if [client for client in book.clients for lot in value if client in lot] != list(book.clients):
        return False
    firsts = tuple([lot[0] for lot in value])
    return firsts == in_sequence(book.clients, firsts) and not any([has_rivals(book, lot) for lot in value])
