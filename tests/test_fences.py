"""Point 5: fences, and the functions that make some."""

import itertools

from tests.helpers import EIGHT, TEXT, Checks, deep, odd_values, text_of
from wallbooks.books import Book
from wallbooks.errors import BadLot, BadPair, BadPairs, NoClient, OtherBook
from wallbooks.fences import Fence, bare, plain, walls

PAIRS = (("bank", "mill"), ("bank", "oil"), ("mill", "bank"), ("oil", "bank"))
STAR = text_of(("hub", "a", "b", "c"), (("a", "hub"), ("hub", "c"), ("b", "hub")))


def all_books(many):
    """The books of so many clients, with all sets of rivals."""
    clients = ("d", "b", "c", "a", "e")[:many]
    pairs = list(itertools.combinations(clients, 2))
    for chosen in itertools.product((False, True), repeat=len(pairs)):
        yield Book(text_of(clients, list(itertools.compress(pairs, chosen))))


def told_pairs(book):
    """The pairs of a book, by the words of point 5."""
    return {pair for pair in itertools.permutations(book.clients, 2)
            if pair not in book.rivals and pair[::-1] not in book.rivals}


def told_rivals(book, client):
    """The set of a client's rivals."""
    return {a for a in book.clients if (a, client) in book.rivals or (client, a) in book.rivals}


class PropertiesTest(Checks):
    def test_properties(self):
        book = Book(TEXT)
        fence = Fence(book, (("oil", "bank"), ("bank", "mill")))
        self.assertEqual(fence.book, book)
        self.same(fence.pairs, (("bank", "mill"), ("oil", "bank")))
        self.assertEqual(Fence(pairs=(("oil", "bank"), ("bank", "mill")), book=book), fence)

    def test_they_are_set_on_each_object(self):
        for name in ("book", "pairs"):
            self.assertTrue(hasattr(bare(Book(TEXT)), name))

    def test_methods_are_defined_in_the_class(self):
        for name in ("lets", "opened", "closed", "is_within", "__init__", "__len__", "__contains__", "__eq__", "__or__",
                     "__and__"):
            self.assertIn(name, vars(Fence))
        for thing in (Fence, plain, bare, walls):
            self.assertEqual(thing.__module__, "wallbooks.fences")

    def test_pairs_are_ascending_whatever_their_sequence(self):
        book = Book(TEXT)
        for many in range(5):
            for pairs in itertools.permutations(PAIRS, many):
                fence = Fence(book, pairs)
                self.same(fence.pairs, tuple(sorted(pairs)))
                self.same(len(fence), many)

    def test_ascending_is_not_in_sequence(self):
        book = Book(text_of(("z", "a", "m")))
        self.same(plain(book).pairs, (("a", "m"), ("a", "z"), ("m", "a"), ("m", "z"), ("z", "a"), ("z", "m")))

    def test_contains(self):
        fence = Fence(Book(TEXT), PAIRS[:2])
        for pair in PAIRS:
            self.assertIs(pair in fence, pair in PAIRS[:2])
        for value in [*odd_values(), ["bank", "mill"], ("bank", "mill", "oil"), "bank", PAIRS[:2], ("bank", ("mill",)),
                      ("bank", "rail"), ("oil", "oil")]:
            self.assertIs(value in fence, False)

    def test_bad_pairs(self):
        book = Book(TEXT)
        pair = ("oil", "bank")
        for value in [*odd_values(), pair, [pair], (pair, pair), (pair, ["bank", "oil"]), (("oil", "oil"),),
                      (("oil", "mill"),), (("mill", "oil"),), (pair, ("mill", "oil")), (("oil", "rail"),),
                      (("rail", "oil"),), (("oil", "bank", "mill"),), (("oil",),), ((),), ((pair,),), {pair: True},
                      (pair, None), (pair, 1), (True,), "", "oil bank", ("oil bank",), (*PAIRS, PAIRS[2]), (pair, book),
                      (("oil", book),), ((pair, pair),), (plain(book),), plain(book), deep(pair, 29)]:
            self.keeps(BadPairs, value, Fence, book, value)

    def test_pairs_of_another_book(self):
        pairs = plain(Book(text_of(("a", "b")))).pairs
        self.keeps(BadPairs, pairs, Fence, Book(TEXT), pairs)


class EqualityTest(Checks):
    def test_equal_books_and_pairs(self):
        one, other = Fence(Book(TEXT), PAIRS[:2]), Fence(Book(TEXT), PAIRS[1::-1])
        self.assertIs(one == one, True)
        self.assertIs(one == other, True)
        self.assertIs(one != other, False)

    def test_unlike_pairs(self):
        book = Book(TEXT)
        for pairs in (PAIRS[:1], PAIRS[:3], PAIRS[1:3], ()):
            self.assertIs(Fence(book, PAIRS[:2]) == Fence(book, pairs), False)
            self.assertIs(Fence(book, PAIRS[:2]) != Fence(book, pairs), True)

    def test_unlike_books(self):
        for text in (TEXT.replace("hand", "eye"), TEXT.replace("rivals oil mill", "rivals mill oil"),
                     TEXT.replace("rivals oil mill\n", "")):
            self.assertIs(Fence(Book(TEXT), PAIRS) == Fence(Book(text), PAIRS), False)
            self.assertIs(bare(Book(TEXT)) == bare(Book(text)), False)
            self.assertIs(bare(Book(TEXT)) != bare(Book(text)), True)

    def test_fences_equal_nothing_else(self):
        fence = Fence(Book(TEXT), PAIRS[:2])
        for value in [*odd_values(), fence.pairs, list(fence.pairs), fence.book, (fence,), fence.book.text]:
            self.assertIs(fence == value, False)
            self.assertIs(value == fence, False)
            self.assertIs(fence != value, True)


class LetsTest(Checks):
    def test_by_its_words(self):
        book = Book(STAR)
        lots = [lot for many in range(5) for lot in itertools.combinations(book.clients, many)]
        for fence in (plain(book), bare(book), walls(book), Fence(book, (("a", "b"), ("b", "c"), ("c", "b")))):
            for lot, client in itertools.product(lots, book.clients):
                wanted = all(one == client or (one, client) in fence.pairs for one in lot)
                self.assertIs(fence.lets(lot, client), wanted)
                self.assertIs(fence.lets(client=client, lot=lot), wanted)

    def test_the_empty_lot_and_the_client_itself(self):
        fence = bare(Book(TEXT))
        for client in ("oil", "bank", "mill"):
            self.assertIs(fence.lets((), client), True)
            self.assertIs(fence.lets((client,), client), True)

    def test_bad_lot(self):
        fence = plain(Book(TEXT))
        odd = [value for value in odd_values() if value != ("oil", "mill")]
        for value in [*odd, ("bank", "oil"), ("oil", "oil"), ("mill", "oil"), ("oil", "bank", "oil"), ["oil"], "oil",
                      ("rail",), ("oil", "rail"), ("hand",), (("oil",),), ("oil", None), ("oil", 1), {"oil": "bank"}]:
            self.keeps(BadLot, value, fence.lets, value, "oil")
            self.keeps(BadLot, value, fence.lets, value, ["no client"])

    def test_no_client(self):
        fence = plain(Book(TEXT))
        for value in [*odd_values(), "hand"]:
            for lot in ((), ("oil",), ("oil", "bank", "mill")):
                self.keeps(NoClient, value, fence.lets, lot, value)


class OpenedClosedTest(Checks):
    def test_each_pair(self):
        book = Book(TEXT)
        for many in range(5):
            for pairs in itertools.combinations(PAIRS, many):
                fence = Fence(book, pairs)
                for one, other in PAIRS:
                    if (one, other) in pairs:
                        self.refuses(BadPair, (one, other), fence.opened, one, other)
                        after = fence.closed(one, other)
                        self.assertEqual(after, Fence(book, tuple(set(pairs) - {(one, other)})))
                        self.assertEqual(fence.closed(other=other, one=one), after)
                    else:
                        self.refuses(BadPair, (one, other), fence.closed, one, other)
                        after = fence.opened(one, other)
                        self.assertEqual(after, Fence(book, (*pairs, (one, other))))
                        self.assertEqual(fence.opened(other=other, one=one), after)
                    self.assertIs(type(after), Fence)
                self.assertEqual(fence, Fence(book, pairs))

    def test_bad_pair(self):
        for fence in (plain(Book(TEXT)), bare(Book(TEXT)), walls(Book(TEXT))):
            pairs = [("oil", "mill"), ("mill", "oil"), ("oil", "oil"), ("bank", "bank")]
            for value in [*odd_values(), "hand"]:
                pairs += [(value, "oil"), ("oil", value), (value, value)]
            for one, other in pairs:
                self.refuses(BadPair, (one, other), fence.opened, one, other)
                self.refuses(BadPair, (one, other), fence.closed, one, other)

    def test_the_very_values_are_kept(self):
        one, other = ["oil"], {"a": None}
        for call in (bare(Book(TEXT)).opened, plain(Book(TEXT)).closed):
            with self.assertRaises(BadPair) as caught:
                call(one, other)
            self.assertIs(caught.exception.value[0], one)
            self.assertIs(caught.exception.value[1], other)


class WithOthersTest(Checks):
    def subsets(self):
        return [pairs for many in range(5) for pairs in itertools.combinations(PAIRS, many)]

    def test_by_their_words(self):
        book = Book(TEXT)
        for mine, others in itertools.product(self.subsets(), repeat=2):
            one, other = Fence(book, mine), Fence(Book(TEXT), others)
            self.assertIs(one.is_within(other), set(mine) <= set(others))
            self.assertIs(one.is_within(other=other), set(mine) <= set(others))
            self.assertEqual(one | other, Fence(book, tuple(set(mine) | set(others))))
            self.assertEqual(one & other, Fence(book, tuple(set(mine) & set(others))))
            self.assertIs(type(one | other), Fence)
            self.assertIs(type(one & other), Fence)
            self.same([one.pairs, other.pairs], [tuple(sorted(mine)), tuple(sorted(others))])

    def test_fences_of_unlike_books(self):
        one = plain(Book(TEXT))
        for text in (STAR, TEXT.replace("hand", "eye"), TEXT.replace("rivals oil mill", "rivals mill oil")):
            for other in (plain(Book(text)), bare(Book(text))):
                self.keeps(OtherBook, other, one.is_within, other)
                self.keeps(OtherBook, other, lambda: one | other)
                self.keeps(OtherBook, other, lambda: one & other)
                self.keeps(OtherBook, one, lambda: other | one)
                self.keeps(OtherBook, one, lambda: other & one)

    def test_is_within_of_what_is_no_fence(self):
        fence = bare(Book(TEXT))
        for value in [*odd_values(), fence.pairs, fence.book, (fence,), [fence], PAIRS]:
            if isinstance(value, Fence):
                self.assertIs(fence.is_within(value), True)
            else:
                self.keeps(OtherBook, value, fence.is_within, value)

    def test_the_elder_one_stays_behind_signs_with_an_assignment(self):
        book = Book(TEXT)
        elder = fence = Fence(book, PAIRS[:1])
        fence |= Fence(book, PAIRS[1:2])
        self.same([elder.pairs, fence.pairs], [PAIRS[:1], PAIRS[:2]])
        elder = fence
        fence &= Fence(book, PAIRS[1:3])
        self.same([elder.pairs, fence.pairs], [PAIRS[:2], PAIRS[1:2]])


class MakersTest(Checks):
    def test_of_all_small_books(self):
        for many in (2, 3, 4):
            for book in all_books(many):
                pairs = told_pairs(book)
                self.same(plain(book).pairs, tuple(sorted(pairs)))
                self.same(bare(book).pairs, ())
                kept = [(a, b) for a, b in pairs if told_rivals(book, a) <= told_rivals(book, b)]
                self.same(walls(book).pairs, tuple(sorted(kept)))
                self.assertTrue(all(fence.book == book for fence in (plain(book), bare(book), walls(book))))

    def test_of_eight_clients(self):
        free = Book(text_of(EIGHT))
        self.same([len(plain(free)), len(bare(free)), len(walls(free))], [56, 0, 56])
        full = Book(text_of(EIGHT, itertools.combinations(EIGHT, 2)))
        self.same([len(plain(full)), len(bare(full)), len(walls(full))], [0, 0, 0])
        self.assertEqual(Fence(free, tuple(itertools.permutations(EIGHT, 2))), plain(free))

    def test_of_a_star(self):
        book = Book(STAR)
        self.same(plain(book).pairs, tuple(itertools.permutations("abc", 2)))
        self.assertEqual(walls(book), plain(book))

    def test_walls_go_one_way(self):
        book = Book(text_of(("a", "b", "c", "d", "e"), (("a", "d"), ("b", "d"), ("b", "e"))))
        fence = walls(book)
        self.same([("a", "b") in fence, ("b", "a") in fence, ("c", "a") in fence, ("a", "c") in fence],
                  [True, False, True, False])
        self.same(fence.pairs, tuple(sorted(
            [("a", "b"), ("e", "d"), *[("c", other) for other in "abde"]])))

    def test_rights_do_not_matter(self):
        for kinds in ((("hand", (), ()),), (("hand", ("oil",), ("bank",)), ("eye", (), ("oil", "bank", "mill")))):
            book = Book(text_of(("oil", "bank", "mill"), (("oil", "mill"),), kinds))
            self.same([plain(book).pairs, walls(book).pairs], [PAIRS, PAIRS[:2]])

    def test_by_name(self):
        book = Book(TEXT)
        self.assertEqual([plain(book=book), bare(book=book), walls(book=book)], [plain(book), bare(book), walls(book)])

    def test_other_names_and_sequences_tell_the_same(self):
        elder = text_of(("a", "b", "c", "d"), (("a", "b"), ("b", "c"), ("c", "d")))
        names = {"a": "z", "b": "m", "c": "y", "d": "k"}
        newer = text_of(("k", "y", "m", "z"), (("z", "m"), ("k", "y"), ("y", "m")))
        for make in (plain, bare, walls):
            renamed = tuple(sorted((names[a], names[b]) for a, b in make(Book(elder)).pairs))
            self.same(make(Book(newer)).pairs, renamed)
