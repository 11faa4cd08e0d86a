"""Point 4: the properties and methods of Book, and what they refuse."""

import itertools

from tests.helpers import EIGHT, TEXT, Checks, odd_values, text_of
from wallbooks.books import Book
from wallbooks.errors import BadRight, BadRivals, BadWord, NoClient, NoKind
from wallbooks.fences import plain

WIDE = text_of(
    ("rail", "oil", "bank", "mill"),
    (("mill", "oil"), ("bank", "rail"), ("rail", "mill")),
    (("hand", ("rail", "bank"), ()), ("eye", (), ("oil", "bank", "mill"))),
)


class PropertiesTest(Checks):
    def test_properties(self):
        book = Book(WIDE)
        self.same(book.text, WIDE)
        self.same(book.clients, ("rail", "oil", "bank", "mill"))
        self.same(book.rivals, (("oil", "mill"), ("rail", "bank"), ("rail", "mill")))
        self.same(book.kinds, ("hand", "eye"))

    def test_they_are_set_on_each_object(self):
        for name in ("text", "clients", "rivals", "kinds"):
            self.assertTrue(hasattr(Book(TEXT), name))

    def test_methods_are_defined_in_the_class(self):
        for name in ("are_rivals", "rivals_of", "looks", "writes", "with_rivals", "without_rivals", "with_right",
                     "without_right", "__init__", "__len__", "__contains__", "__eq__"):
            self.assertIn(name, vars(Book))
        self.assertEqual(Book.__module__, "wallbooks.books")

    def test_len(self):
        self.same([len(Book(TEXT)), len(Book(WIDE)), len(Book(text_of(EIGHT)))], [3, 4, 8])

    def test_contains(self):
        book = Book(TEXT)
        for client in ("oil", "bank", "mill"):
            self.assertIs(client in book, True)
        for value in [*odd_values(), "hand", "oi", "il", ("oil",), ("oil", "bank", "mill"), "clients"]:
            self.assertIs(value in book, False)

    def test_equality(self):
        book = Book(TEXT)
        self.assertIs(book == book, True)
        self.assertIs(book == Book(TEXT), True)
        self.assertIs(book != Book(TEXT), False)

    def test_books_of_unlike_texts_are_unlike(self):
        for text in (WIDE, TEXT.replace("rivals oil mill", "rivals mill oil"), TEXT.replace("hand", "eye"),
                     TEXT.replace("looks oil", "looks"), TEXT.replace("writes oil", "writes")):
            self.assertIs(Book(TEXT) == Book(text), False)
            self.assertIs(Book(TEXT) != Book(text), True)

    def test_books_equal_nothing_else(self):
        book = Book(TEXT)
        for value in [*odd_values(), TEXT, book.clients, (TEXT,)]:
            if not isinstance(value, Book):
                self.assertIs(book == value, False)
                self.assertIs(value == book, False)
                self.assertIs(book != value, True)


class RivalsTest(Checks):
    def test_are_rivals(self):
        book = Book(WIDE)
        told = (("oil", "mill"), ("rail", "bank"), ("rail", "mill"))
        for one, other in itertools.product(book.clients, repeat=2):
            self.assertIs(book.are_rivals(one, other), (one, other) in told or (other, one) in told)
            self.assertIs(book.are_rivals(other=other, one=one), book.are_rivals(one, other))

    def test_rivals_of(self):
        book = Book(WIDE)
        self.same([book.rivals_of(client) for client in book.clients],
                  [("bank", "mill"), ("mill",), ("rail",), ("rail", "oil")])
        self.same(book.rivals_of(client="mill"), ("rail", "oil"))
        self.same(Book(text_of(EIGHT)).rivals_of("oil"), ())

    def test_rivals_of_all_pairs(self):
        book = Book(text_of(EIGHT, itertools.combinations(sorted(EIGHT), 2)))
        for client in EIGHT:
            self.same(book.rivals_of(client), tuple(other for other in EIGHT if other != client))

    def test_no_client(self):
        book = Book(TEXT)
        for value in [*odd_values(), "hand"]:
            self.keeps(NoClient, value, book.are_rivals, value, "oil")
            self.keeps(NoClient, value, book.are_rivals, "oil", value)
            self.keeps(NoClient, value, book.are_rivals, value, ["x"])
            self.keeps(NoClient, value, book.rivals_of, value)
            self.keeps(NoClient, value, book.with_rivals, value, "oil")
            self.keeps(NoClient, value, book.with_rivals, "oil", value)
            self.keeps(NoClient, value, book.with_rivals, value, value)
            self.keeps(NoClient, value, book.without_rivals, value, "oil")
            self.keeps(NoClient, value, book.without_rivals, "mill", value)
            self.keeps(NoClient, value, book.without_rivals, value, {"x": 1})

    def test_with_rivals(self):
        book = Book(TEXT)
        after = book.with_rivals("mill", "bank")
        self.assertIs(type(after), Book)
        self.same(after.text, TEXT.replace("mill\nkind", "mill\nrivals mill bank\nkind"))
        self.same(after.rivals, (("bank", "mill"), ("oil", "mill")))
        self.assertEqual(book.with_rivals(other="bank", one="mill"), after)
        self.same(after.with_rivals("oil", "bank").text.split("\n")[1:4],
                  ["rivals oil mill", "rivals mill bank", "rivals oil bank"])
        self.same(Book(text_of(("a", "b"))).with_rivals("b", "a").text, text_of(("a", "b"), (("b", "a"),)))

    def test_without_rivals(self):
        book = Book(WIDE)
        for one, other, line in (("oil", "mill", "rivals mill oil\n"), ("mill", "oil", "rivals mill oil\n"),
                                 ("rail", "bank", "rivals bank rail\n"), ("rail", "mill", "rivals rail mill\n")):
            after = book.without_rivals(one, other)
            self.assertIs(type(after), Book)
            self.same(after.text, WIDE.replace(line, ""))
            self.assertEqual(book.without_rivals(other=other, one=one), after)
        self.same(Book(TEXT).without_rivals("oil", "mill").rivals, ())

    def test_all_rivals_one_after_another(self):
        book = Book(text_of(EIGHT))
        pairs = list(itertools.combinations(EIGHT, 2))
        for pair in pairs:
            book = book.with_rivals(*pair)
        self.assertEqual(book, Book(text_of(EIGHT, pairs)))
        for one, other in pairs:
            book = book.without_rivals(other, one)
        self.assertEqual(book, Book(text_of(EIGHT)))

    def test_bad_rivals(self):
        book = Book(TEXT)
        for pair in (("oil", "oil"), ("bank", "bank"), ("oil", "mill"), ("mill", "oil")):
            self.refuses(BadRivals, pair, book.with_rivals, *pair)
        for pair in (("oil", "oil"), ("bank", "bank"), ("oil", "bank"), ("bank", "oil"), ("mill", "bank")):
            self.refuses(BadRivals, pair, book.without_rivals, *pair)

    def test_the_elder_book_stays(self):
        book = Book(TEXT)
        book.with_rivals("oil", "bank")
        book.without_rivals("oil", "mill")
        book.without_right("hand", "look", "bank")
        self.assertEqual(book, Book(TEXT))
        self.same([book.text, book.rivals, book.looks("hand")], [TEXT, (("oil", "mill"),), ("oil", "bank", "mill")])


class RightsTest(Checks):
    def test_looks_and_writes(self):
        book = Book(WIDE)
        self.same([book.looks("hand"), book.writes("hand")], [("rail", "bank"), ()])
        self.same([book.looks(kind="eye"), book.writes(kind="eye")], [(), ("oil", "bank", "mill")])

    def test_no_kind(self):
        book = Book(TEXT)
        for value in [*odd_values(), "oil", "kind", "hands", ("hand",)]:
            self.keeps(NoKind, value, book.looks, value)
            self.keeps(NoKind, value, book.writes, value)
            self.keeps(NoKind, value, book.with_right, value, "look", "oil")
            self.keeps(NoKind, value, book.without_right, value, "look", "oil")

    def test_bad_word(self):
        book = Book(TEXT)
        for value in [*odd_values(), "looks", "writes", "Look", "write ", ("look",), ["write"]]:
            self.keeps(BadWord, value, book.with_right, "hand", value, "oil")
            self.keeps(BadWord, value, book.without_right, "hand", value, "oil")

    def test_no_client(self):
        book = Book(TEXT)
        for value in [*odd_values(), "hand"]:
            for word in ("look", "write"):
                self.keeps(NoClient, value, book.with_right, "hand", word, value)
                self.keeps(NoClient, value, book.without_right, "hand", word, value)

    def test_which_error_comes_first(self):
        book = Book(TEXT)
        for call in (book.with_right, book.without_right):
            self.refuses(NoKind, 1, call, 1, 2, 3)
            self.refuses(NoKind, 1, call, 1, "look", 3)
            self.refuses(NoKind, 1, call, client=3, word=2, kind=1)
            self.refuses(BadWord, 2, call, "hand", 2, 3)

    def test_each_right_taken_and_given(self):
        for text in (TEXT, WIDE):
            book = Book(text)
            for kind, word, client in itertools.product(book.kinds, ("look", "write"), book.clients):
                lots = {"look": book.looks(kind), "write": book.writes(kind)}
                if client in lots[word]:
                    self.refuses(BadRight, (kind, word, client), book.with_right, kind, word, client)
                    after = book.without_right(kind, word, client)
                    lots[word] = tuple(other for other in lots[word] if other != client)
                    self.assertEqual(after.with_right(kind, word, client), book)
                else:
                    self.refuses(BadRight, (kind, word, client), book.without_right, kind, word, client)
                    after = book.with_right(kind=kind, word=word, client=client)
                    lots[word] = tuple(other for other in book.clients if other in lots[word] or other == client)
                    self.assertEqual(after.without_right(client=client, word=word, kind=kind), book)
                self.assertIs(type(after), Book)
                self.same([after.looks(kind), after.writes(kind)], [lots["look"], lots["write"]])

    def test_all_else_of_the_text_stays(self):
        book = Book(WIDE)
        self.same(book.with_right("hand", "look", "oil").text, WIDE.replace("looks rail bank", "looks rail oil bank"))
        self.same(book.with_right("hand", "write", "mill").text, WIDE.replace("writes\n", "writes mill\n"))
        self.same(book.without_right("eye", "write", "bank").text, WIDE.replace("writes oil bank mill", "writes oil mill"))
        self.same(book.with_right("eye", "look", "rail").text, WIDE.replace("looks\n", "looks rail\n"))

    def test_the_last_right_leaves_the_word_alone(self):
        book = Book(text_of(("a", "b"), (), (("k", ("a",), ("b",)),)))
        self.same(book.without_right("k", "look", "a").text, "clients a b\nkind k\nlooks\nwrites b")
        self.same(book.without_right("k", "write", "b").text, "clients a b\nkind k\nlooks a\nwrites")

    def test_equal_calls_return_equal_results(self):
        book = Book(WIDE)
        for _ in range(2):
            self.assertEqual(book.with_rivals("oil", "bank"), Book(WIDE).with_rivals("oil", "bank"))
            self.assertEqual(book.with_right("hand", "look", "oil"), Book(WIDE).with_right("hand", "look", "oil"))
            self.assertEqual(plain(book), plain(Book(WIDE)))
