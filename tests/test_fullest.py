"""Point 8: what keeps apart, what can be added, and the fullest fences."""

import copy
import itertools
import random

from tests.helpers import EIGHT, TEXT, Checks, deep, odd_values, row_of, some_book, some_fence, text_of, told_apart
from wallbooks import fullest as module
from wallbooks.apart import apart
from wallbooks.books import Book
from wallbooks.errors import NotApart
from wallbooks.fences import Fence, bare, plain, walls
from wallbooks.fullest import addable, fullest, shows_fullest

THREE = ("oil", "bank", "mill")
# One kind brings oil's facts to the bank, another one mill's, and a third one looks there: either, but not both.
EITHER = text_of(THREE, (("oil", "mill"),), (("one", ("oil",), ("bank",)), ("other", ("mill",), ("bank",)),
                                            ("eye", ("bank",), ())))
NO_HOPS = (("bank", "mill"), ("bank", "oil"))


def all_fences(book):
    """All fences of the book."""
    pairs = plain(book).pairs
    return [Fence(book, some) for many in range(len(pairs) + 1) for some in itertools.combinations(pairs, many)]


def around(fence, others):
    """Those of the others that have all pairs of the fence."""
    return [other for other in others if set(fence.pairs) <= set(other.pairs)]


def small_books():
    """Books of which not too many fences can be made."""
    for kinds in ((("hand", THREE, THREE),), (("eye", THREE, ()), ("pen", (), THREE)),
                  (("one", THREE[:2], THREE[1:]), ("other", THREE[1:], THREE[:2]))):
        for many in range(4):
            for rivals in itertools.combinations(itertools.combinations(THREE, 2), many):
                yield Book(text_of(THREE, rivals, kinds))
    yield Book(EITHER)
    rng = random.Random(81)
    for many in (3,) * 12 + (4,) * 12:
        book = some_book(rng, many, 0.5, rng.choice((0.4, 0.7)))
        if len(plain(book)) <= 6:
            yield book


class InterfaceTest(Checks):
    def test_functions_are_defined_in_the_file(self):
        for name in ("addable", "fullest", "shows_fullest"):
            self.assertEqual(getattr(module, name).__module__, "wallbooks.fullest")

    def test_by_name(self):
        fence = bare(Book(TEXT))
        self.same(addable(fence=fence), addable(fence))
        self.same(fullest(fence=fence), fullest(fence))
        self.assertIs(shows_fullest(value=fullest(fence), fence=fence), True)

    def test_equal_calls_and_what_is_handed_in(self):
        for book in (Book(TEXT), Book(EITHER)):
            fence = bare(book)
            first = [addable(fence), fullest(fence)]
            value = copy.deepcopy([list(first[1]), {"a": [fence]}])
            self.assertIs(shows_fullest(fence, value), False)
            self.same(value, [list(first[1]), {"a": [fence]}])
            self.same([addable(fence), fullest(bare(Book(book.text)))], first)
            self.assertEqual(fence, bare(Book(book.text)))


class ByTheWordsTest(Checks):
    """Against a going through all fences of small books."""

    def test_addable(self):
        for book in small_books():
            for fence in all_fences(book):
                if told_apart(fence):
                    wanted = [pair for pair in plain(book).pairs
                              if pair not in fence and told_apart(Fence(book, (*fence.pairs, pair)))]
                    self.same(addable(fence), tuple(sorted(wanted)))

    def test_fullest(self):
        words = set()
        for book in small_books():
            kept = [fence for fence in all_fences(book) if told_apart(fence)]
            full = [fence for fence in kept if around(fence, kept) == [fence]]
            for fence in kept:
                told, wanted = fullest(fence), around(fence, full)
                words.add(told[0])
                self.same(len(wanted) == 1, told[0] == "only")
                if told[0] == "only":
                    self.same(told, ("only", wanted[0]))
                else:
                    self.same((told[0], len(told), type(told)), ("two", 3, tuple))
                    self.assertTrue(told[1] in wanted and told[2] in wanted and told[1] != told[2])
                self.assertIs(shows_fullest(fence, told), True)
        self.same(words, {"only", "two"})

    def test_shows_fullest_of_all_fences(self):
        for book in (Book(TEXT), Book(EITHER)):
            every = all_fences(book)
            kept = [fence for fence in every if told_apart(fence)]
            full = [fence for fence in kept if around(fence, kept) == [fence]]
            for fence in kept:
                wanted = around(fence, full)
                for one in every:
                    self.assertIs(shows_fullest(fence, ("only", one)), wanted == [one])
                    for other in every:
                        right = one in wanted and other in wanted and one != other
                        self.assertIs(shows_fullest(fence, ("two", one, other)), right)

    def test_fences_of_more_clients(self):
        rng = random.Random(82)
        for many in (5, 6, 8) * 8:
            book = some_book(rng, many, rng.choice((0.1, 0.3, 0.6)), rng.choice((0.3, 0.6, 1)))
            for fence in (bare(book), walls(book), some_fence(rng, book, 0.1) & walls(book)):
                added = addable(fence)
                for pair in plain(book).pairs:
                    if pair not in fence:
                        self.assertIs(told_apart(fence.opened(*pair)), pair in added)
                self.same(added, tuple(sorted(added)))
                told = fullest(fence)
                for full in told[1:]:
                    self.assertTrue(told_apart(full) and fence.is_within(full))
                    self.same([pair for pair in plain(book).pairs if pair not in full and told_apart(full.opened(*pair))],
                              [])
                    self.same(fullest(full), ("only", full))
                    self.same(addable(full), ())
                together = Fence(book, fence.pairs + added)
                self.assertIs(told[0] == "only", told_apart(together))
                self.same(told[1] == together, told[0] == "only")
                self.assertIs(len(told) == 3 and told[1] == told[2], False)
                self.assertIs(shows_fullest(fence, told), True)


class ByHandTest(Checks):
    def test_the_book_of_the_document(self):
        book = Book(TEXT)
        for fence in all_fences(book):
            if fence.is_within(walls(book)):
                self.same(fullest(fence), ("only", walls(book)))
                self.same(addable(fence), tuple(pair for pair in walls(book).pairs if pair not in fence))

    def test_either(self):
        book = Book(EITHER)
        self.same(addable(bare(book)), plain(book).pairs)
        one, other = Fence(book, (*NO_HOPS, ("oil", "bank"))), Fence(book, (*NO_HOPS, ("mill", "bank")))
        told = fullest(bare(book))
        self.assertIn(told, (("two", one, other), ("two", other, one)))
        self.same(fullest(Fence(book, (("oil", "bank"),))), ("only", one))
        self.same(fullest(Fence(book, (("mill", "bank"),))), ("only", other))
        self.same(addable(Fence(book, (("mill", "bank"),))), NO_HOPS)

    def test_pairs_that_are_no_hop_are_added(self):
        for kinds in ((("none", (), ()),), (("eye", THREE, ()), ("pen", (), THREE)), (("eye", THREE, ()),)):
            book = Book(text_of(THREE, (("oil", "mill"),), kinds))
            self.same(addable(bare(book)), plain(book).pairs)
            self.same(fullest(bare(book)), ("only", plain(book)))
            self.same([addable(plain(book)), fullest(plain(book))], [(), ("only", plain(book))])

    def test_no_rivals_and_all(self):
        free = Book(text_of(EIGHT, (), (("hand", EIGHT, EIGHT),)))
        self.same(addable(bare(free)), plain(free).pairs)
        self.same(fullest(bare(free)), ("only", plain(free)))
        every = Book(text_of(EIGHT, itertools.combinations(EIGHT, 2), (("hand", EIGHT, EIGHT),)))
        self.same([addable(bare(every)), fullest(bare(every))], [(), ("only", bare(every))])

    def test_two_clients(self):
        for rivals, pairs in (((), (("a", "b"), ("b", "a"))), ((("b", "a"),), ())):
            book = Book(text_of(("b", "a"), rivals, (("hand", ("b", "a"), ("b", "a")),)))
            self.same([addable(bare(book)), fullest(bare(book))], [pairs, ("only", plain(book))])

    def test_ascending_is_not_in_sequence(self):
        book = Book(text_of(("z", "a", "m"), (), (("hand", ("z", "a", "m"), ("z", "a", "m")),)))
        self.same(addable(Fence(book, (("a", "z"),))), (("a", "m"), ("m", "a"), ("m", "z"), ("z", "a"), ("z", "m")))

    def test_where_one_kind_does_all_walls_are_the_only_full_fence(self):
        rng = random.Random(83)
        for many in (2, 3, 4, 5, 8) * 5:
            book = some_book(rng, many, rng.choice((0.2, 0.5, 0.8)), 0.5, rng.choice((1, 3)))
            book = Book(f"{book.text}\nkind all\nlooks {' '.join(book.clients)}\nwrites {' '.join(book.clients)}")
            for fence in (bare(book), walls(book), some_fence(rng, book) & walls(book)):
                self.same(fullest(fence), ("only", walls(book)))

    def test_other_names_and_sequences_tell_the_same(self):
        names = {"oil": "z", "bank": "a", "mill": "m"}
        other = Book(text_of(("m", "a", "z"), (("z", "m"),), (("eye", ("a",), ()), ("no", ("m",), ("a",)),
                                                             ("on", ("z",), ("a",)))))
        for fence in all_fences(Book(EITHER)):
            newer = Fence(other, tuple((names[a], names[b]) for a, b in fence.pairs))
            if told_apart(fence):
                self.same(addable(newer), tuple(sorted((names[a], names[b]) for a, b in addable(fence))))
                told, again = fullest(fence), fullest(newer)
                self.same(again[0], told[0])
                renamed = [{(names[a], names[b]) for a, b in full.pairs} for full in told[1:]]
                self.assertIs(shows_fullest(newer, (told[0], *(Fence(other, tuple(pairs)) for pairs in renamed))), True)


class NotApartTest(Checks):
    def test_as_apart_tells(self):
        rng = random.Random(84)
        fences = [plain(Book(TEXT)), plain(Book(EITHER)), row_of(8), row_of(8, 1), row_of(3)]
        fences += [some_fence(rng, some_book(rng, many, 0.3, 0.8), 0.8) for many in (3, 4, 5, 8) * 6]
        refused = 0
        for fence in fences:
            told = apart(fence)
            if told[0] == "round":
                refused += 1
                for call in (addable, fullest):
                    self.refuses(NotApart, told[1:], call, fence)
                for value in (("only", fence), ("only", walls(fence.book)), None, ["two"], told):
                    self.refuses(NotApart, told[1:], shows_fullest, fence, value)
            else:
                addable(fence)
                fullest(fence)
                shows_fullest(fence, None)
        self.assertGreater(refused, 10)

    def test_staff_and_run_stand_in_a_tuple(self):
        with self.assertRaises(NotApart) as caught:
            addable(plain(Book(TEXT)))
        staff, run = caught.exception.value
        self.same([len(caught.exception.value), staff, len(run)], [2, ("hand", "hand"), 4])
        self.way_round(plain(Book(TEXT)), staff, run)


class ShowsTest(Checks):
    def hides(self, fence, *values):
        for value in values:
            self.assertIs(shows_fullest(fence, value), False, value)

    def test_the_only_one(self):
        book = Book(TEXT)
        only = walls(book)
        for fence in (bare(book), only):
            self.assertIs(shows_fullest(fence, ("only", only)), True)
            self.assertIs(shows_fullest(fence, ("only", walls(Book(TEXT)))), True)
            self.hides(fence, ("only", bare(book)), ("only", plain(book)), ("only", only.closed("bank", "oil")),
                       ("only", only.opened("oil", "bank")), ("two", only, only), ("two", only, bare(book)),
                       ("two", only, plain(book)), ("two", only), ("only", only, only), ("only",), ["only", only],
                       ("Only", only), (only, "only"), ("only", only.pairs), ("only", (only,)), ("only", [only]), only,
                       (only,), ("only", only, ()), ("apart", only), (("only", only),), "only", ("only", book),
                       {"only": only}, ("only", "only"), ("only", None), (True, only))

    def test_two(self):
        book = Book(EITHER)
        one, other = Fence(book, (*NO_HOPS, ("oil", "bank"))), Fence(book, (*NO_HOPS, ("mill", "bank")))
        for fence in (bare(book), Fence(book, NO_HOPS[:1]), Fence(book, NO_HOPS)):
            for value in (("two", one, other), ("two", other, one)):
                self.assertIs(shows_fullest(fence, value), True)
            self.hides(fence, ("two", one, one), ("two", other, other), ("only", one), ("only", other), ("two", one),
                       ("two", one, other.closed("bank", "oil")), ("two", one.closed("bank", "mill"), other),
                       ("two", one, plain(book)), ("two", plain(book), one), ("two", one, bare(book)), ("two", one, None),
                       ("two", one, other, other), ("two", one, other, ()), ["two", one, other], ("two", (one, other)),
                       ("two", [one, other]), ("two", one.pairs, other.pairs), ("Two", one, other), ("only", one, other),
                       (one, other), (one, "two", other), ("two", one, book), ("two", "two", "two"), ("two", None, other))

    def test_two_that_lack_a_pair_of_the_fence(self):
        book = Book(EITHER)
        one, other = Fence(book, (*NO_HOPS, ("oil", "bank"))), Fence(book, (*NO_HOPS, ("mill", "bank")))
        fence = Fence(book, (("oil", "bank"),))
        self.assertIs(shows_fullest(fence, ("only", one)), True)
        self.hides(fence, ("only", other), ("two", one, other), ("two", other, one), ("two", one, one))

    def test_two_full_ones_that_lack_a_pair_of_a_fence_with_two_others(self):
        clients = ("oil", "bank", "mill", "rail", "ship", "coal")
        kinds = (("one", ("oil", "rail"), ("bank", "ship")), ("other", ("mill", "coal"), ("bank", "ship")),
                 ("eye", ("bank",), ()), ("ear", ("ship",), ()))
        book = Book(text_of(clients, (("oil", "mill"), ("rail", "coal")), kinds))
        fence, lacking = Fence(book, (("oil", "bank"),)), Fence(book, (("mill", "bank"),))
        told, others = fullest(fence), fullest(lacking)
        self.same([told[0], others[0]], ["two", "two"])
        self.assertIs(shows_fullest(bare(book), others), True)
        self.hides(fence, others, ("two", told[1], others[1]), ("two", others[2], told[2]))

    def test_fences_of_another_book(self):
        book = Book(TEXT)
        for text in (TEXT.replace("hand", "pen"), TEXT.replace("rivals oil mill", "rivals mill oil"),
                     text_of(("a", "b"), (), (("hand", (), ()),)), TEXT.replace("bank", "rail")):
            self.hides(bare(book), ("only", walls(Book(text))), ("two", walls(book), walls(Book(text))))
        elder, newer = Book(EITHER), Book(EITHER.replace("one", "ones"))
        told, again = fullest(bare(elder)), fullest(bare(newer))
        self.hides(bare(elder), again, ("two", told[1], again[2]), ("two", again[1], told[2]), ("two", told[1], again[1]))
        self.assertIs(shows_fullest(bare(newer), again), True)

    def test_what_is_told_of_another_fence(self):
        rng = random.Random(85)
        for many in (3, 4, 5) * 15:
            book = some_book(rng, many, 0.4, rng.choice((0.4, 0.7)))
            fences = [bare(book), walls(book), some_fence(rng, book, 0.3), some_fence(rng, book, 0.5)]
            fences = [fence for fence in fences if told_apart(fence)]
            for fence, other in itertools.permutations(fences, 2):
                told, mine = fullest(other), fullest(fence)
                if mine[0] == "only" or told[0] == "only":
                    wanted = told == mine
                else:
                    wanted = fence.is_within(told[1]) and fence.is_within(told[2])
                self.assertIs(shows_fullest(fence, told), wanted)

    def test_odd_values(self):
        for book in (Book(TEXT), Book(EITHER)):
            told = fullest(bare(book))
            for value in [*odd_values(), (), deep(told, 30), deep(told[1], 29), deep(told, 1)]:
                self.hides(bare(book), value, ("only", value), ("two", value, told[1]), ("two", told[1], value), (value,),
                           (value, *told[1:]), (*told, value), (*told[:1], value, *told[2:]), ("two", value, value))
