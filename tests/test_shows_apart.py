"""Point 7: shows_apart, of what is told, of what is near to it, and of any other value."""

import copy
import itertools
import random

from tests.helpers import (
    EIGHT, TEXT, Checks, deep, have_rivals, odd_values, rights_of, row_of, some_book, some_fence, text_of, told_closed,
    told_goes,
    told_stand, two_rows,
)
from wallbooks.apart import apart, shows_apart
from wallbooks.books import Book
from wallbooks.fences import Fence, bare, plain, walls

STAFF = ("hand", "hand")
RUN = ((0, "look", "oil"), (0, "write", "bank"), (1, "look", "mill"), (1, "look", "bank"))
THREE = ("oil", "bank", "mill")
UNREAD = text_of(THREE, (("oil", "mill"),), (("one", ("oil",), ("bank",)), ("other", ("mill",), ("bank",))))


def tables_of(clients):
    """All tables of these clients, closed or not."""
    lots = [lot for many in range(len(clients) + 1) for lot in itertools.combinations(clients, many)]
    return itertools.product(lots, repeat=len(clients))


def told_way(fence, staff, run):
    """Whether this is a run by the fence, in which each person has a deed, and just the last deed is a meeting."""
    if {deed[0] for deed in run} != set(range(len(staff))):
        return False
    if not all(told_goes(fence, staff, run[:at], deed) for at, deed in enumerate(run)):
        return False
    known = [told_stand(fence.book, staff, run[:at + 1])[2][deed[0]] for at, deed in enumerate(run)]
    return [have_rivals(fence.book, lot) for lot in known] == [False] * (len(run) - 1) + [True]


class ShowsChecks(Checks):
    def shows(self, fence, *values):
        for value in values:
            self.assertIs(shows_apart(fence, value), True, value)

    def hides(self, fence, *values):
        for value in values:
            self.assertIs(shows_apart(fence, value), False, value)


class TablesTest(ShowsChecks):
    def just_the_closed_ones(self, fence):
        shown = 0
        for table in tables_of(fence.book.clients):
            wanted = told_closed(fence, dict(zip(fence.book.clients, table)))
            self.assertIs(shows_apart(fence, ("apart", table)), wanted)
            shown += wanted
        self.assertEqual(shown > 0, apart(fence)[0] == "apart")
        return shown

    def test_all_tables_of_three_clients(self):
        book = Book(TEXT)
        self.same([self.just_the_closed_ones(make(book)) for make in (plain, walls)], [0, 1])
        self.assertGreater(self.just_the_closed_ones(bare(book)), 1)
        self.assertGreater(self.just_the_closed_ones(plain(Book(UNREAD))), 1)
        rng = random.Random(5)
        for _ in range(25):
            book = some_book(rng, 3, rng.choice((0, 0.4, 0.8)), rng.choice((0.3, 0.6)))
            self.just_the_closed_ones(some_fence(rng, book))

    def test_all_tables_of_two_clients(self):
        for rivals, looks in itertools.product(((), (("a", "b"),)), ((), ("a",), ("a", "b"))):
            book = Book(text_of(("a", "b"), rivals, (("hand", looks, ("b",)),)))
            for fence in (plain(book), bare(book)):
                self.just_the_closed_ones(fence)

    def test_any_closed_table(self):
        fence = plain(Book(UNREAD))
        self.shows(fence, ("apart", (("oil",), ("oil", "bank", "mill"), ("mill",))),
                   ("apart", (("oil", "bank"), THREE, ("mill",))), ("apart",
                                                                    (("oil", "bank"), THREE, ("bank", "mill"))))
        self.hides(fence, ("apart", (("oil",), ("bank",), ("mill",))), ("apart",
                                                                        (("oil",), ("oil", "bank"), ("mill",))),
                   ("apart", (("oil", "mill"), THREE, ("mill",))), ("apart", (THREE,) * 3))

    def test_of_eight_clients_without_rivals(self):
        book = Book(text_of(EIGHT, (), (("hand", EIGHT, EIGHT),)))
        self.shows(plain(book), ("apart", (EIGHT,) * 8))
        self.shows(bare(book), ("apart", (EIGHT,) * 8), ("apart", tuple((client,) for client in EIGHT)))
        self.hides(plain(book), ("apart", tuple((client,) for client in EIGHT)), ("apart", (EIGHT,) * 7),
                   ("apart", (EIGHT,) * 9), ("apart", (*(EIGHT,) * 7, EIGHT[:7])))

    def test_of_all_rivals(self):
        book = Book(text_of(EIGHT, itertools.combinations(EIGHT, 2), (("hand", EIGHT, EIGHT),)))
        table = tuple((client,) for client in EIGHT)
        self.shows(plain(book), ("apart", table))
        for at, other in itertools.product(range(8), EIGHT):
            lot = tuple(client for client in EIGHT if client in (EIGHT[at], other))
            self.assertIs(shows_apart(plain(book), ("apart", (*table[:at], lot, *table[at + 1:]))), len(lot) == 1)

    def test_near_to_a_table(self):
        fence = walls(Book(TEXT))
        table = (("oil", "bank"), ("bank",), ("bank", "mill"))
        self.shows(fence, ("apart", table))
        self.hides(fence, ("apart", table[:2]), ("apart", (*table, ())), ("apart", (*table, table[2])), ("apart", ()),
                   ("apart", table[::-1]), ("apart", (table[1], table[0], table[2])), ("apart", list(table)),
                   ("apart", (list(table[0]), *table[1:])), ("apart", (("bank", "oil"), *table[1:])),
                   ("apart", (("oil", "bank", "bank"), *table[1:])), ("apart", (("oil", "rail"), *table[1:])),
                   ("apart", (("oil",), *table[1:])), ("apart", ((), *table[1:])), ("apart", ("oil bank", *table[1:])),
                   ("apart", dict(zip(THREE, table))), ("apart", table, ()), ("apart",), ("Apart", table),
                   (table, "apart"),
                   ("round", table), ["apart", table], ("apart", (table,)), (("apart", table),), table, "apart",
                   ("apart", None, table), ("apart", ("oil", "bank", "mill")), ("only", table), {"apart": table})

    def test_odd_values(self):
        table = (("oil", "bank"), ("bank",), ("bank", "mill"))
        for make in (plain, bare, walls):
            fence = make(Book(TEXT))
            for value in [*odd_values(), (), deep(("apart", table), 30), deep(table, 29)]:
                self.hides(fence, value, ("apart", value), ("apart", (value,) * 3), ("apart", (value, *table[1:])),
                           ("apart", table, value), (value, table), ("apart", ((value,), *table[1:])),
                           ("apart", (("oil", value), *table[1:])), ("apart", (("oil", "bank", value), *table[1:])))


class RoundsTest(ShowsChecks):
    def test_all_short_runs(self):
        kinds = (("hand", ("oil", "bank"), ("bank",)), ("eye", ("bank", "mill"), ("oil",)))
        book = Book(text_of(THREE, (("oil", "mill"),), kinds))
        for pairs in ((("oil", "bank"),), (("bank", "oil"), ("oil", "bank"), ("mill", "bank"))):
            fence = Fence(book, pairs)
            self.same(len(apart(fence)[2]), 4)
            shown = []
            for staff in (("hand",), ("eye",), ("hand", "eye"), ("eye", "hand"), ("hand", "hand")):
                for many in range(5):
                    for run in itertools.product(rights_of(book, staff), repeat=many):
                        wanted = many == 4 and told_way(fence, staff, run)
                        self.assertIs(shows_apart(fence, ("round", staff, run)), wanted)
                        shown += [("round", staff, run)] * wanted
            self.assertGreater(len(shown), 2)
            self.assertIn(apart(fence), shown)

    def test_any_shortest_way(self):
        fence = plain(Book(TEXT))
        self.shows(fence, ("round", STAFF, RUN), ("round", STAFF, (RUN[2], *RUN[:2], RUN[3])),
                   ("round", STAFF, (RUN[0], RUN[2], RUN[1], RUN[3])))
        exchanged = tuple((1 - person, word, client) for person, word, client in RUN)
        mills = tuple((person, word, {"oil": "mill", "mill": "oil"}.get(client, client)) for person, word,
                      client in RUN)
        self.shows(fence, ("round", STAFF, exchanged), ("round", STAFF, mills))
        # Who looks at the papers first and at the rival's then has the meeting at the last deed, too.
        self.shows(fence, ("round", STAFF, (*RUN[:2], RUN[3], RUN[2])))

    def test_near_to_a_way(self):
        fence = plain(Book(TEXT))
        for at, deed in enumerate(RUN):
            self.hides(fence, ("round", STAFF, RUN[:at] + RUN[at + 1:]), ("round", STAFF, (*RUN[:at], deed, *RUN[at:])),
                       ("round", STAFF, (*RUN[:at], list(deed), *RUN[at + 1:])), ("round", STAFF, RUN[:at]),
                       ("round", STAFF, (*RUN[:at], (*deed, deed[2]), *RUN[at + 1:])),
                       ("round", STAFF, (*RUN[:at], deed[:2], *RUN[at + 1:])),
                       ("round", STAFF, (*RUN[:at], (bool(deed[0]), *deed[1:]), *RUN[at + 1:])))
            for other in ("oil", "bank", "mill", "rail"):
                if other != deed[2]:
                    self.hides(fence, ("round", STAFF, (*RUN[:at], (*deed[:2], other), *RUN[at + 1:])))
            for person in (1 - deed[0], 2, -1, None):
                self.hides(fence, ("round", STAFF, (*RUN[:at], (person, *deed[1:]), *RUN[at + 1:])))
            for word in ("look", "write", "Look", None):
                if word != deed[1]:
                    self.hides(fence, ("round", STAFF, (*RUN[:at], (deed[0], word, deed[2]), *RUN[at + 1:])))

    def test_near_to_a_staff(self):
        fence = plain(Book(f"{TEXT}\nkind eye\nlooks bank mill\nwrites"))
        self.shows(fence, ("round", STAFF, RUN), ("round", ("hand", "eye"), RUN))
        self.hides(fence, ("round", ("eye", "hand"), RUN), ("round", ("eye", "eye"), RUN))
        for staff in ((*STAFF, "hand"), (*STAFF, "eye"), ("hand",), (), STAFF * 4, (*STAFF * 4, "hand"), list(STAFF),
                      "hand",
                      ("hand", "pen"), ("hand", None), {"hand": "hand"}, ("Hand", "hand"), (STAFF, STAFF), None):
            self.hides(fence, ("round", staff, RUN))

    def test_an_idle_person_ahead(self):
        fence = plain(Book(TEXT))
        later = tuple((person + 1, word, client) for person, word, client in RUN)
        self.hides(fence, ("round", ("hand",) * 3, later), ("round", ("hand",) * 3, RUN))

    def test_longer_ways(self):
        fence = plain(Book(TEXT))
        for at in range(4):
            for deed in rights_of(fence.book, STAFF):
                self.hides(fence, ("round", STAFF, (*RUN[:at], deed, *RUN[at:])))
        three = (*RUN[:3], (0, "look", "bank"), (0, "look", "oil"), RUN[3])
        self.assertTrue(told_way(fence, STAFF, three))
        both = (*RUN[:2], (1, "look", "mill"), (1, "write", "bank"), (2, "look", "bank"))
        self.assertTrue(told_way(fence, ("hand",) * 3, both))
        self.hides(fence, ("round", STAFF, three), ("round", ("hand",) * 3, both))

    def test_what_goes_on_behind_the_meeting(self):
        fence = plain(Book(TEXT))
        for deed in rights_of(fence.book, STAFF):
            self.hides(fence, ("round", STAFF, (*RUN, deed)))

    def test_runs_that_do_not_go_by_the_fence(self):
        book = Book(TEXT)
        for fence in (bare(book), walls(book), Fence(book, (("mill", "bank"),))):
            self.hides(fence, ("round", STAFF, RUN))
        self.shows(Fence(book, (("oil", "bank"),)), ("round", STAFF, RUN))
        # The read rule is broken here, though there is a meeting.
        self.hides(plain(book), ("round", ("hand",), ((0, "look", "oil"), (0, "look", "mill"))))

    def test_forms(self):
        fence = plain(Book(TEXT))
        self.hides(fence, ["round", STAFF, RUN], ("Round", STAFF, RUN), ("round", RUN, STAFF), ("round", STAFF),
                   ("round", STAFF, RUN, ()), ("round", (STAFF, RUN)), (STAFF, RUN), ("apart", STAFF, RUN), "round",
                   ("round",), ("round", STAFF, list(RUN)), ("round", STAFF, RUN, None), (("round", STAFF, RUN),),
                   ("round", STAFF, ()), ("round", STAFF, RUN * 10), ("round", STAFF, RUN * 11),
                   {"round": (STAFF, RUN)},
                   ("meet", RUN), ("round", STAFF, dict(enumerate(RUN))), (True, STAFF, RUN), (None, STAFF, RUN))

    def test_odd_values(self):
        fence = plain(Book(TEXT))
        for value in [*odd_values(), (), deep(("round", STAFF, RUN), 30), deep(RUN, 29)]:
            self.hides(fence, value, ("round", value, RUN), ("round", STAFF, value), (value, STAFF, RUN),
                       ("round", STAFF, (*RUN[:3], value)), ("round", ("hand", value), RUN), ("round", value, value),
                       ("round", STAFF, (*RUN[:3], (1, "look", value))), ("round", STAFF,
                                                                          (*RUN[:3], (1, value, "bank"))),
                       ("round", STAFF, RUN, value))
            if value != 1 or isinstance(value, bool):
                self.hides(fence, ("round", STAFF, (*RUN[:3], (value, "look", "bank"))))


class BothTest(ShowsChecks):
    def fences(self):
        rng = random.Random(9)
        for many in (2, 3, 4, 6, 8) * 8:
            book = some_book(rng, many, rng.choice((0.2, 0.5)), rng.choice((0.3, 0.6, 1)))
            yield [make(book) for make in (plain, bare, walls)] + [some_fence(rng, book), some_fence(rng, book, 0.2)]
        for many in range(3, 9):
            yield [row_of(many), row_of(many, 1), plain(row_of(many).book), walls(row_of(many).book)]
        yield [two_rows(("x", "b", "c", "t"), ("y", "k", "l", "m", "t")), two_rows(("x", "t"), ("y", "t"))]

    def test_what_is_told(self):
        for fences in self.fences():
            for fence in fences:
                self.shows(fence, apart(fence))

    def test_what_is_told_of_another_fence(self):
        for fences in self.fences():
            for fence, other in itertools.permutations(fences, 2):
                told = apart(other)
                if told[0] == "apart":
                    wanted = len(told[1]) == len(fence.book) and told_closed(fence,
                                                                             dict(zip(fence.book.clients, told[1])))
                elif apart(fence)[0] == "apart" or len(told[2]) != len(apart(fence)[2]) or fence.book != other.book:
                    wanted = False
                else:
                    wanted = told_way(fence, *told[1:])
                self.assertIs(shows_apart(fence, told), wanted)

    def test_what_is_told_of_another_book(self):
        fence = plain(Book(TEXT))
        renamed = plain(Book(TEXT.replace("bank", "rail")))
        self.hides(renamed, apart(fence))
        self.hides(walls(renamed.book), apart(walls(fence.book)))
        turned = Book(text_of(THREE[::-1], (("oil", "mill"),), (("hand", THREE[::-1], THREE[::-1]),)))
        self.hides(walls(turned), apart(walls(fence.book)))
        self.shows(plain(turned), apart(fence))

    def test_ways_of_rows_with_a_deed_otherwise(self):
        for fence in (row_of(4), row_of(8, 1), row_of(8), two_rows(("x", "b", "c", "t"), ("y", "k", "l", "m", "t"))):
            word, staff, run = apart(fence)
            for at, deed in enumerate(run):
                self.hides(fence, (word, staff, run[:at] + run[at + 1:]), (word, staff, (*run[:at], deed, *run[at:])))
                for other in range(at):
                    swapped = list(run)
                    swapped[at], swapped[other] = swapped[other], swapped[at]
                    wanted = told_way(fence, staff, tuple(swapped))
                    self.assertIs(shows_apart(fence, (word, staff, tuple(swapped))), wanted)

    def test_nothing_is_changed(self):
        fence = plain(Book(TEXT))
        for value in (["round", list(STAFF), list(RUN)], {"a": [STAFF]}, [[]], ("round", list(STAFF), [list(RUN[0])])):
            before = copy.deepcopy(value)
            shows_apart(fence, value)
            self.same(value, before)
