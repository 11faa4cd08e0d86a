"""Fences: who may write for one client after looking at another one's papers."""

from wallbooks.errors import BadLot, BadPair, BadPairs, NoClient, OtherBook
from wallbooks.names import is_lot


class Fence:
    """A set of pairs of a book; it never changes."""

    def __init__(self, book, pairs):
        if not are_pairs(book, pairs):
            raise BadPairs(pairs)
        self.book = book
        self.pairs = tuple(sorted(pairs))

    def __len__(self):
        return len(self.pairs)

    def __contains__(self, value):
        return value in self.pairs

    def __eq__(self, other):
        return isinstance(other, Fence) and self.book == other.book and self.pairs == other.pairs

    def __or__(self, other):
        self._need_fence_of_equal_book(other)
        return Fence(self.book, tuple(sorted(set(self.pairs) | set(other.pairs))))

    def __and__(self, other):
        self._need_fence_of_equal_book(other)
        return Fence(self.book, tuple([pair for pair in self.pairs if pair in other.pairs]))

    def lets(self, lot, client):
        """Tell whether whoever has looked at just this lot may write for the client."""
        if not is_lot(self.book.clients, lot):
            raise BadLot(lot)
        if client not in self.book:
            raise NoClient(client)
        return all([looked == client or (looked, client) in self.pairs for looked in lot])

    def opened(self, one, other):
        """Return the fence with one pair more."""
        pair = (one, other)
        if pair in self.pairs or pair not in all_pairs(self.book):
            raise BadPair(pair)
        return Fence(self.book, (*self.pairs, pair))

    def closed(self, one, other):
        """Return the fence with one pair less."""
        pair = (one, other)
        if pair not in self.pairs:
            raise BadPair(pair)
        return Fence(self.book, tuple([kept for kept in self.pairs if kept != pair]))

    def is_within(self, other):
        """Tell whether another fence of an equal book has all pairs of this one."""
        self._need_fence_of_equal_book(other)
        return all([pair in other.pairs for pair in self.pairs])

    def _need_fence_of_equal_book(self, other):
        if not (isinstance(other, Fence) and self.book == other.book):
            raise OtherBook(other)


def all_pairs(book):
    """Return the tuple of all pairs of a book: two unlike clients that are no rivals."""
    barred = [(one, other) for pair in book.rivals for one, other in (pair, pair[::-1])]
    return tuple([
        (one, other)
        for one in book.clients
        for other in book.clients
        if one != other and (one, other) not in barred
    ])


def are_pairs(book, value):
    """Tell whether any value is a tuple of pairs of the book, none twice."""
    if not isinstance(value, tuple):
        return False
    known = all_pairs(book)
    # Only pairs that are known surely can be members of a set.
    return all([pair in known for pair in value]) and len(set(value)) == len(value)


def plain(book):
    """Return the fence of all pairs of a book."""
    return Fence(book, all_pairs(book))


def bare(book):
    """Return the fence of a book without pairs."""
    return Fence(book, ())


def walls(book):
    """Return the fence of the pairs (one, other) such that each rival of one is a rival of other."""
    return Fence(book, tuple([(one, other) for one, other in all_pairs(book) if shares_rivals(book, one, other)]))


def shares_rivals(book, one, other):
    """Tell whether each rival of one client is a rival of another one, too."""
    return all([book.are_rivals(rival, other) for rival in book.rivals_of(one)])
