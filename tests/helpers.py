"""What several test files need: texts of books, odd values, and a strict check of errors."""

import unittest

from wallbooks.books import Book
from wallbooks.fences import Fence, plain

TEXT = "clients oil bank mill\nrivals oil mill\nkind hand\nlooks oil bank mill\nwrites oil bank mill"
EIGHT = ("rail", "oil", "bank", "mill", "a", "zzzzzzzz", "ship", "coal")


def text_of(clients, rivals=(), kinds=(("hand", (), ()),)):
    """The text of a book: kinds are told as (name, looks, writes)."""
    lines = [" ".join(("clients", *clients))]
    lines += [" ".join(("rivals", *pair)) for pair in rivals]
    for kind, looks, writes in kinds:
        lines += [f"kind {kind}", " ".join(("looks", *looks)), " ".join(("writes", *writes))]
    return "\n".join(lines)


def deep(value, depth):
    """The value within so many tuples, lists and dicts."""
    for level in range(depth):
        value = ((value,), [value], {"oil": value})[level % 3]
    return value


def odd_values():
    """Values of many kinds, none of which is a client, a kind, a word or a pair of the book of TEXT."""
    book = Book(TEXT)
    return [
        0, 1, -1, True, False, None, "", "rail", "Oil", "oil ", "oil bank", "oiloil",
        ["oil"], ["oil", "bank"], [], {}, {"oil": "bank"}, ("oil", "mill"), ("bank", "oil", "mill"),
        ((("oil", "bank"),),), [("oil", "bank")], (["oil", "bank"],), (1, True), (None,), ((),),
        book, plain(book), (book,), [plain(book)], (("oil", book),), {"a": {"b": [book]}},
        deep("oil", 30), deep(book, 30), deep(plain(book), 29), Fence(book, ()), (book, plain(book)),
    ]


def same(one, other):
    """Whether two values are alike in all their parts, True not being 1 and a list not a tuple."""
    if type(one) is not type(other):
        return False
    if isinstance(one, (tuple, list)):
        return len(one) == len(other) and all(same(a, b) for a, b in zip(one, other))
    if isinstance(one, dict):
        return list(one) == list(other) and all(same(one[key], other[key]) for key in one)
    return one == other


class Checks(unittest.TestCase):
    """Checks that are stricter than those of unittest."""

    def same(self, found, wanted):
        self.assertTrue(same(found, wanted), f"{found!r} is not {wanted!r}")

    def refuses(self, error, value, call, *args, **named):
        """The call raises just this error, with a value like this one."""
        with self.assertRaises(error) as caught:
            call(*args, **named)
        self.assertIs(type(caught.exception), error)
        self.same(caught.exception.value, value)

    def keeps(self, error, value, call, *args, **named):
        """The call raises just this error, with this very value."""
        with self.assertRaises(error) as caught:
            call(*args, **named)
        self.assertIs(type(caught.exception), error)
        self.assertIs(caught.exception.value, value)
