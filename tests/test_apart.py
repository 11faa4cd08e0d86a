"""Point 7: whether a fence keeps apart, any closed table, and the shortest way round."""

import copy
import itertools
import random

from tests.helpers import (
    EIGHT, TEXT, Checks, Crowd, Otherwise, reachable, row_of, some_book, some_fence, text_of, told_apart, told_closed,
    two_rows,
)
from wallbooks import apart as module
from wallbooks.apart import apart, shows_apart
from wallbooks.books import Book
from wallbooks.fences import Fence, bare, plain, walls
from wallbooks.fullest import addable
from wallbooks.runs import meeting


def all_rivals(clients, kinds):
    """The books of these clients and kinds, with all sets of rivals."""
    pairs = list(itertools.combinations(clients, 2))
    for many in range(len(pairs) + 1):
        for rivals in itertools.combinations(pairs, many):
            yield Book(text_of(clients, rivals, kinds))


class ApartChecks(Checks):
    def right(self, fence, deeds=None):
        """What apart tells of the fence is right by the words of point 7, but that there is nothing shorter."""
        told = apart(fence)
        self.assertIs(shows_apart(fence, told), True)
        self.assertIs(type(told), tuple)
        self.assertEqual(told[0], "apart" if told_apart(fence) else "round")
        if told[0] == "apart":
            self.assertEqual(len(told), 2)
            self.closed(fence, told[1])
        else:
            self.assertEqual(len(told), 3)
            self.way_round(fence, *told[1:])
        self.assertTrue(deeds is None or len(told[2]) == deeds)
        return told

    def closed(self, fence, table):
        clients = fence.book.clients
        self.same(len(table), len(clients))
        for lot in table:
            self.same(lot, tuple(client for client in clients if client in lot))
        self.assertTrue(told_closed(fence, dict(zip(clients, table))))


class InterfaceTest(ApartChecks):
    def test_functions_are_defined_in_the_file(self):
        for name in ("apart", "shows_apart"):
            self.assertEqual(getattr(module, name).__module__, "wallbooks.apart")

    def test_by_name(self):
        fence = plain(Book(TEXT))
        self.same(apart(fence=fence), apart(fence))
        self.assertIs(shows_apart(value=apart(fence), fence=fence), True)

    def test_equal_calls_and_what_is_handed_in(self):
        for make in (plain, bare, walls):
            fence = make(Book(TEXT))
            told = apart(fence)
            value = copy.deepcopy([list(told)])
            self.same(apart(make(Book(TEXT))), told)
            shows_apart(fence, value)
            self.same(value, [list(told)])
            self.assertEqual(fence, make(Book(TEXT)))


class ByHandTest(ApartChecks):
    def test_the_book_of_the_document(self):
        book = Book(TEXT)
        self.right(plain(book), 4)
        for fence in (bare(book), walls(book), Fence(book, (("bank", "oil"),))):
            self.assertEqual(self.right(fence)[0], "apart")
        for pair in (("oil", "bank"), ("mill", "bank")):
            self.right(Fence(book, (pair,)), 4)

    def test_one_look_into_papers_with_facts_of_both(self):
        kinds = [("one", ("oil",), ("bank",)), ("other", ("mill",), ("bank",)), ("eye", ("bank",), ())]
        book = Book(text_of(("oil", "bank", "mill"), (("oil", "mill"),), kinds))
        told = self.right(plain(book), 5)
        self.same((sorted(told[1]), told[2][-1][1:]), (["eye", "one", "other"], ("look", "bank")))

    def test_facts_that_lie_unread(self):
        kinds = [("one", ("oil",), ("bank",)), ("other", ("mill",), ("bank",))]
        book = Book(text_of(("oil", "bank", "mill"), (("oil", "mill"),), kinds))
        told = self.right(plain(book))
        self.same(told[0], "apart")
        self.same(told[1][1], ("oil", "bank", "mill"))
        self.same(self.right(plain(book.with_right("other", "look", "bank")), 4)[1], ("one", "other"))

    def test_a_rival_of_the_papers_themselves(self):
        kinds = [("one", ("oil",), ("bank",)), ("other", ("bank",), ("mill",)), ("eye", ("mill",), ())]
        book = Book(text_of(("oil", "bank", "mill"), (("oil", "mill"),), kinds))
        self.same(self.right(plain(book), 5)[1], ("one", "other", "eye"))

    def test_no_rivals(self):
        for many in (2, 3, 8):
            clients = EIGHT[:many]
            book = Book(text_of(clients, (), [(kind, clients, clients) for kind in "abcd"]))
            self.same(self.right(plain(book)), ("apart", (clients,) * many))
            self.same(self.right(bare(book)), ("apart", tuple((client,) for client in clients)))

    def test_all_are_rivals(self):
        for many in (2, 3, 8):
            clients = EIGHT[:many]
            book = Book(text_of(clients, itertools.combinations(clients, 2), [(kind, clients, clients) for kind in "ab"]))
            self.same(self.right(plain(book)), ("apart", tuple((client,) for client in clients)))

    def test_two_clients(self):
        for rivals, looks, writes in itertools.product(((), (("a", "b"),)), ((), ("b",), ("a", "b")), ((), ("a", "b"))):
            book = Book(text_of(("a", "b"), rivals, (("hand", looks, writes),)))
            self.same([self.right(make(book))[0] for make in (plain, bare, walls)], ["apart"] * 3)

    def test_kinds_that_can_do_little(self):
        clients = ("oil", "bank", "mill")
        for kinds in ([("none", (), ())], [("eye", clients, ())], [("pen", (), clients)],
                      [("eye", clients, ()), ("pen", (), clients)], [("none", (), ()), ("eye", clients, ())],
                      [("eye", clients, ()), ("pen", (), clients), ("own", ("bank",), ("bank",)), ("no", (), ())],
                      [("hand", ("bank",), clients), ("eye", clients, ())]):
            book = Book(text_of(clients, (("oil", "mill"),), kinds))
            self.same(self.right(plain(book))[0], "apart")

    def test_pairs_that_are_no_hop(self):
        kinds = [("hand", ("oil",), ("mill",)), ("eye", ("oil", "bank", "mill"), ()), ("pen", (), ("bank",))]
        book = Book(text_of(("oil", "bank", "mill"), (("oil", "mill"),), kinds))
        self.same(self.right(plain(book)), ("apart", (("oil",), ("bank",), ("mill",))))
        after = book.with_right("hand", "write", "bank")
        self.right(plain(after), 4)
        self.right(Fence(after, (("bank", "mill"), ("bank", "oil"))))

    def test_a_kind_looks_and_another_one_writes(self):
        clients = ("oil", "bank", "mill")
        book = Book(text_of(clients, (("oil", "mill"),), [("eye", clients, ()), ("pen", (), clients)]))
        self.right(plain(book))
        self.right(plain(book.with_right("pen", "look", "mill")), 4)

    def test_the_one_who_looks_needs_rights_to_both(self):
        kinds = [("hand", ("oil",), ("bank",)), ("eye", ("bank",), ()), ("other", ("mill",), ())]
        book = Book(text_of(("oil", "bank", "mill"), (("oil", "mill"),), kinds))
        self.same(self.right(plain(book))[0], "apart")
        self.right(plain(book.with_right("eye", "look", "mill")), 4)
        self.right(plain(book.with_right("other", "write", "bank")), 5)


class FewestTest(ApartChecks):
    """That a way round has as few deeds, and as few people, as there can be."""

    def fewest(self, fence, most=3):
        """Against a going through all runs of a few people."""
        told = self.right(fence)
        if told[0] == "apart":
            self.assertIsNone(Crowd(fence, 3).fewest(5))
        else:
            _, staff, run = told
            if len(staff) <= most:
                self.assertEqual(Crowd(fence, len(staff) + 1).fewest(len(run)), len(run))
            for many in range(1, min(len(staff), most)):
                self.assertIsNone(Crowd(fence, many).fewest())
        return told

    def test_all_fences_of_three_clients_and_one_kind(self):
        clients = ("oil", "bank", "mill")
        for book in all_rivals(clients, [("hand", clients, clients)]):
            for many in range(len(plain(book)) + 1):
                for pairs in itertools.combinations(plain(book).pairs, many):
                    fence = Fence(book, pairs)
                    told = self.fewest(fence) if book.rivals else self.right(fence)
                    self.same(told[0] == "apart", fence.is_within(walls(book)))

    def small_books(self, seed, clients, wanted, chances=(0.2, 0.4, 0.6, 0.9)):
        """So many small books are gone through as are wanted of each number of deeds, 0 for none."""
        rng = random.Random(seed)
        wanted = dict(wanted)
        while any(wanted.values()):
            book = some_book(rng, rng.choice(clients), rng.choice((0.2, 0.4)), rng.choice(chances))
            fence = some_fence(rng, book, rng.choice(chances))
            told = apart(fence)
            deeds = len(told[2]) if told[0] == "round" else 0
            if book.rivals and wanted.get(deeds):
                self.fewest(fence)
                wanted[deeds] -= 1

    def test_three_clients(self):
        self.small_books(7, (3,), {0: 30, 4: 30, 5: 12})

    def test_four_and_five_clients(self):
        self.small_books(77, (4, 5), {4: 8, 5: 4, 6: 4, 7: 1}, (0.2, 0.4))

    def test_clients_in_a_row(self):
        for many in range(3, 9):
            fence = row_of(many)
            clients = fence.book.clients
            told = self.right(fence, 2 * many - 2)
            self.same(told[1], ("hand",) * (many - 2) + ("eye",))
            if many < 5:
                self.fewest(fence, 4)
            for one, other in zip(clients[:-2], clients[1:-1]):
                self.same(self.right(fence.closed(one, other))[0], "apart")
            self.right(fence.closed(*clients[-2:]), 2 * many - 2)

    def test_clients_in_a_row_that_the_last_one_sees_alone(self):
        for many in range(3, 9):
            fence = row_of(many, 1)
            told = self.right(fence, 2 * many - 1)
            self.same(told[1], ("hand",) * (many - 1) + ("eye",))
            if many < 5:
                self.fewest(fence, 4)
            for one, other in fence.pairs:
                self.same(self.right(fence.closed(one, other))[0], "apart")

    def test_clients_in_a_row_and_one_kind_that_does_all(self):
        for many in range(3, 9):
            clients = EIGHT[:many]
            book = Book(text_of(clients, ((clients[0], clients[-1]),), (("hand", clients, clients),)))
            self.right(plain(book), 4)
            self.right(Fence(book, tuple(zip(clients, clients[1:]))), 4)
            self.same(self.right(Fence(book, tuple(zip(clients[1:], clients[2:]))))[0], "apart")

    def test_a_row_with_a_short_cut(self):
        for many, last in itertools.product(range(4, 9), (1, 2)):
            fence = row_of(many, last)
            clients = fence.book.clients
            for start, end in itertools.combinations(range(many - 1), 2):
                cut = Fence(fence.book, tuple({*fence.pairs, (clients[start], clients[end])}))
                self.right(cut, 2 * many - last - 2 * (end - start - 1))

    def test_a_longer_trail_whose_names_stand_ahead(self):
        kinds = [("hand", ("a", "b", "c", "z"), ("b", "c", "t", "z")), ("eye", ("t", "x"), ())]
        for clients in (("a", "b", "c", "t", "x", "z"), ("z", "x", "t", "c", "b", "a")):
            told = [(kind, *([client for client in clients if client in lot] for lot in lots)) for kind, *lots in kinds]
            book = Book(text_of(clients, (("a", "x"),), told))
            fence = Fence(book, (("a", "b"), ("b", "c"), ("c", "t"), ("a", "z"), ("z", "t")))
            self.right(fence, 6)
            self.right(fence.closed("z", "t"), 8)

    def test_two_rows(self):
        for many in range(1, 8):
            one = ("x", "b", "c", "d", "e", "f", "g")[:many]
            other = ("y", "k", "l", "m", "n", "o", "p")[:8 - many - 1]
            fence = two_rows((*one, "t"), (*other, "t")) if other else None
            if fence is not None:
                told = self.right(fence, 15)
                self.same(len(told[1]), 8)

    def test_two_rows_whose_ends_are_seen_by_one(self):
        one, other = ("x", "b", "c", "t"), ("y", "k", "l")
        told = self.right(two_rows(one, (*other, "t"), ("c", "l")), 10)
        self.same((len(told[1]), told[1][-1]), (5, "looker"))
        told = self.right(two_rows(one, (*other, "t"), ("c", "k")), 8)
        self.same(told[1][-1], "looker")

    def test_two_ends_take_a_look_more(self):
        one, other = ("x", "b", "t"), ("y", "t")
        self.right(two_rows(one, other), 7)
        self.right(two_rows(one, other, ("b", "t")), 6)
        self.right(two_rows(one, other, ("y", "b", "t")), 4)

    def test_fifteen_deeds_and_eight_people_at_the_most(self):
        rng = random.Random(15)
        for _ in range(300):
            book = some_book(rng, 8, rng.choice((0.1, 0.2)), rng.choice((0.15, 0.3, 0.5)))
            told = self.right(some_fence(rng, book, rng.choice((0.1, 0.2, 0.3))))
            if told[0] == "round":
                self.assertLessEqual(len(told[1]), 8)
                self.assertLessEqual(len(told[2]), 15)


class GuaranteesTest(ApartChecks):
    def some_fences(self, seed, rounds):
        rng = random.Random(seed)
        for many in (2, 3, 4, 5, 6, 8) * rounds:
            book = some_book(rng, many, rng.choice((0, 0.2, 0.5, 1)), rng.choice((0.3, 0.6, 1)))
            yield from (plain(book), bare(book), walls(book), some_fence(rng, book), some_fence(rng, book, 0.2))

    def test_what_is_told_is_right(self):
        for fence in self.some_fences(1, 25):
            self.right(fence)

    def test_nobody_meets_where_it_tells_apart(self):
        rng = random.Random(2)
        checked = 0
        while checked < 15:
            book = some_book(rng, rng.choice((3, 4)), 0.3, 0.5, rng.choice((1, 2)))
            fence = some_fence(rng, book)
            if book.rivals and apart(fence)[0] == "apart":
                self.assertIsNone(Crowd(fence, 2).fewest())
                checked += 1

    def test_walls_and_bare_keep_apart_in_every_book(self):
        for fence in self.some_fences(3, 25):
            self.same([apart(make(fence.book))[0] for make in (walls, bare)], ["apart"] * 2)

    def test_where_one_kind_does_all_just_pairs_of_walls_keep_apart(self):
        rng = random.Random(4)
        for many in (2, 3, 4, 5, 8) * 12:
            book = some_book(rng, many, rng.choice((0.2, 0.5, 0.8)), 0.5, rng.choice((1, 2, 3)))
            book = Book(f"{book.text}\nkind all\nlooks {' '.join(book.clients)}\nwrites {' '.join(book.clients)}")
            self.same(addable(bare(book)), walls(book).pairs)
            for share in (0.05, 0.2, 0.6, 1):
                fence = some_fence(rng, book, share)
                for fence in (fence, fence & walls(book)):
                    self.same(apart(fence)[0] == "apart", fence.is_within(walls(book)))
            passed = all(not (book.are_rivals(a, c) and not book.are_rivals(a, b) and not book.are_rivals(b, c))
                         for a, b, c in itertools.permutations(book.clients, 3))
            self.same(apart(plain(book))[0] == "apart", passed)

    def test_less_keeps_apart_too(self):
        for fence in self.some_fences(5, 6):
            if apart(fence)[0] == "apart":
                for pair in fence.pairs[::3]:
                    self.same(apart(fence.closed(*pair))[0], "apart")
                for kind in fence.book.kinds:
                    for client in fence.book.looks(kind):
                        less = fence.book.without_right(kind, "look", client)
                        self.same(apart(Fence(less, fence.pairs))[0], "apart")
                    for client in fence.book.writes(kind):
                        less = fence.book.without_right(kind, "write", client)
                        self.same(apart(Fence(less, fence.pairs))[0], "apart")

    def test_other_names_and_sequences_tell_the_same(self):
        rng = random.Random(8)
        for fence in self.some_fences(9, 6):
            otherwise = Otherwise(rng, fence.book)
            newer = otherwise.fence(fence)
            told, again = self.right(fence), self.right(newer)
            self.same(told[0], again[0])
            if told[0] == "round":
                self.same([len(part) for part in told], [len(part) for part in again])
                staff, run = otherwise.staff(told[1]), otherwise.run(told[2])
                self.assertIs(shows_apart(newer, ("round", staff, run)), True)
                self.assertEqual(meeting(newer.book, staff, run), len(run) - 1)

    def test_kinds_of_the_same_rights(self):
        for fence in self.some_fences(10, 4):
            book = fence.book
            if len(book.kinds) < 4:
                kind = book.kinds[0]
                twin = Book("\n".join([book.text, "kind twin", " ".join(["looks", *book.looks(kind)]),
                                       " ".join(["writes", *book.writes(kind)])]))
                told, again = apart(fence), self.right(Fence(twin, fence.pairs))
                self.same([len(part) for part in told], [len(part) for part in again])

    def test_tables_have_what_comes_there(self):
        for fence in self.some_fences(11, 4):
            told = apart(fence)
            if told[0] == "apart":
                for client, lot in zip(fence.book.clients, told[1]):
                    self.assertLessEqual(reachable(fence)[client], set(lot))
