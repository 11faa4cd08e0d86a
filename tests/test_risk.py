"""Point 13: what people who come anew could bring about, from the papers as they are."""

import itertools
import random

from tests.helpers import (
    EIGHT, TEXT, Checks, Crowd, Otherwise, deep, have_rivals, odd_values, reachable, rights_of, row_of, some_book,
    some_fence,
    text_of, told_closed, told_goes, told_stand,
)
from wallbooks.apart import apart
from wallbooks.books import Book
from wallbooks.fences import Fence, bare, plain, walls
from wallbooks.houses import House

THREE = ("oil", "bank", "mill")
# One kind brings oil's facts to the bank, another one mill's: nobody looks there, but whoever gets the right to.
UNREAD = (("one", ("oil",), ("bank",)), ("other", ("mill",), ("bank",)))


def led(fence, *steps):
    """A house on which these steps were done."""
    house = House(fence)
    for word, *rest in steps:
        getattr(house, word)(*rest)
    return house


def papers_of(house):
    return {client: house.papers(client) for client in house.fence.book.clients}


def told_knowing(book, staff, run, papers):
    """What each person knows behind the run, from papers that bear these facts at first."""
    borne = {client: set(lot) for client, lot in papers.items()}
    known = [set() for _ in staff]
    for person, word, client in run:
        if word == "look":
            known[person] |= borne[client]
        else:
            borne[client] |= known[person]
    return known


def wander(rng, house, steps):
    """Some people come, and do what they can."""
    book = house.fence.book
    for _ in range(steps):
        could = [(word, person, client) for person in range(len(house)) for word, client in house.can(person)]
        if len(house) < 8 and (not could or rng.random() < 0.4):
            house.hire(rng.choice(book.kinds))
        elif could:
            word, person, client = rng.choice(could)
            getattr(house, word)(person, client)
    return house


class RiskChecks(Checks):
    def right(self, house, deeds=None):
        """What risk tells is right by the words of point 13, but that there is nothing shorter."""
        told = house.risk()
        self.assertIs(house.shows_risk(told), True)
        self.assertIs(type(told), tuple)
        fence, papers = house.fence, papers_of(house)
        if house.met() is not None:
            self.same(told, ("met", house.met()))
            return told
        lots = reachable(fence, papers)
        self.same(told[0], "apart" if told_closed(fence, lots) else "round")
        if told[0] == "apart":
            self.same(len(told), 2)
            self.table(fence, papers, told[1])
        else:
            self.same(len(told), 3)
            self.way(fence, papers, *told[1:])
        self.assertTrue(deeds is None or len(told[2]) == deeds)
        return told

    def table(self, fence, papers, table):
        clients = fence.book.clients
        self.same(len(table), len(clients))
        for client, lot in zip(clients, table):
            self.same(lot, tuple(one for one in clients if one in lot))
            self.assertLessEqual(set(papers[client]), set(lot))
        self.assertTrue(told_closed(fence, dict(zip(clients, table))))

    def way(self, fence, papers, staff, run):
        self.assertEqual({deed[0] for deed in run}, set(range(len(staff))))
        for at, deed in enumerate(run):
            self.assertTrue(deed in rights_of(fence.book, staff) and told_goes(fence, staff, run[:at], deed))
            known = told_knowing(fence.book, staff, run[:at + 1], papers)[deed[0]]
            self.assertIs(have_rivals(fence.book, known), at == len(run) - 1)

    def shows(self, house, *values):
        for value in values:
            self.assertIs(house.shows_risk(value), True, value)

    def hides(self, house, *values):
        for value in values:
            self.assertIs(house.shows_risk(value), False, value)


class RiskTest(RiskChecks):
    def test_ahead_of_all_steps_it_is_what_apart_tells(self):
        rng = random.Random(150)
        for many in (2, 3, 4, 5, 8) * 10:
            fence = some_fence(rng, some_book(rng, many, rng.choice((0.2, 0.4)), 0.6), 0.6)
            told, of_apart = self.right(House(fence)), apart(fence)
            self.same([len(part) for part in told], [len(part) for part in of_apart])
            self.same(told[0], of_apart[0])
            self.shows(House(fence), of_apart)

    def test_ahead_of_a_way_round_amid_it_and_behind_it(self):
        fence = plain(Book(TEXT))
        house = House(fence)
        self.right(house, 4)
        house.hire("hand")
        self.right(house, 4)
        house.look(0, "oil")
        self.right(house, 4)
        house.write(0, "bank")
        self.right(house, 2)
        house.hire("hand")
        house.look(1, "mill")
        self.right(house, 2)
        house.leave(0)
        self.right(house, 2)
        house.look(1, "bank")
        self.same(self.right(house), ("met", 3))
        house.hire("hand")
        self.same(self.right(house), ("met", 3))
        house.undo()
        house.undo()
        self.right(house, 2)

    def test_facts_in_papers_that_nobody_has_looked_at(self):
        book = Book(text_of(THREE, (("oil", "mill"),), (*UNREAD, ("eye", ("bank",), ()))))
        steps = [("hire", "one"), ("hire", "other"), ("look", 0, "oil"), ("write", 0, "bank"), ("look", 1, "mill"),
                 ("write", 1, "bank")]
        self.same([len(self.right(led(plain(book), *steps[:many]))[2]) for many in range(7)], [5, 5, 5, 5, 3, 3, 1])
        house = led(plain(book), *steps)
        self.same([house.papers("bank"), house.met(), house.risk()[1:]], [THREE, None,
                                                                          (("eye",), ((0, "look", "bank"),))])
        self.same(self.right(led(plain(book), *steps, ("hire", "eye"), ("look", 2, "bank"))), ("met", 4))

    def test_facts_of_rivals_where_nobody_may_look(self):
        house = led(plain(Book(text_of(THREE, (("oil", "mill"),), UNREAD))), ("hire", "one"), ("hire", "other"),
                    ("look", 0, "oil"), ("write", 0, "bank"), ("look", 1, "mill"), ("write", 1, "bank"))
        self.same(self.right(house), ("apart", (("oil",), THREE, ("mill",))))

    def test_facts_go_on_from_where_they_are(self):
        for many in range(3, 9):
            fence = row_of(many)
            clients = fence.book.clients
            house = House(fence)
            for at in range(many - 2):
                self.right(house, 2 * many - 2 - 2 * at)
                house.hire("hand")
                house.look(at, clients[at])
                self.right(house, 2 * many - 2 - 2 * at)
                house.write(at, clients[at + 1])
            self.right(house, 2)
            house.hire("eye")
            house.look(many - 2, clients[-2])
            self.right(house, 2)

    def test_who_is_there_does_not_bind_those_who_come(self):
        fence = plain(Book(TEXT))
        house = led(fence, *[("hire", "hand")] * 8, *[("look", 0, "oil")] * 40)
        self.right(house, 4)
        house = led(fence, *[("hire", "hand")] * 8, ("look", 0, "oil"), ("write", 0, "bank"),
                    *[("look", 1, "oil")] * 38,
                    *[("leave", person) for person in range(8)])
        self.right(house, 2)

    def test_what_people_know_does_not_count_papers_do(self):
        kinds = (("one", ("oil",), ("bank",)), ("eye", ("bank", "mill"), ()))
        house = led(plain(Book(text_of(THREE, (("oil", "mill"),), kinds))), ("hire", "eye"), ("look", 0, "mill"))
        self.right(house, 4)
        for steps in ((("hire", "one"), ("look", 1, "oil")), (("write", 1, "bank"),)):
            for word, *rest in steps:
                getattr(house, word)(*rest)
        self.same(self.right(house, 2)[1], ("eye",))

    def test_walls_and_bare_are_never_at_risk(self):
        rng = random.Random(151)
        for many in (2, 3, 4, 5, 8) * 8:
            book = some_book(rng, many, rng.choice((0.2, 0.5)), 0.7)
            for make in (walls, bare):
                self.same(self.right(wander(rng, House(make(book)), 15))[0], "apart")

    def test_wandering(self):
        rng = random.Random(152)
        words = {}
        for many in (3, 4, 4, 5, 6, 8) * 25:
            book = some_book(rng, many, rng.choice((0.1, 0.3)), rng.choice((0.3, 0.6, 1)))
            house = House(rng.choice((plain(book), some_fence(rng, book, 0.6))))
            for _ in range(3):
                told = self.right(wander(rng, house, 10))
                word = (told[0], any(len(house.papers(client)) > 1 for client in book.clients))
                words[word] = words.get(word, 0) + 1
        for word in itertools.product(("met", "apart", "round"), (False, True)):
            if word != ("met", False):
                self.assertGreater(words.get(word, 0), 5, words)

    def test_against_all_runs(self):
        rng = random.Random(153)
        wanted = {0: 15, 1: 10, 2: 20, 3: 15, 4: 15, 5: 10}
        unread = Book(text_of(THREE, (("oil", "mill"),), (*UNREAD, ("eye", ("bank",), ("oil", "bank")))))
        while any(wanted.values()):
            book = some_book(rng, 3, rng.choice((0.3, 0.5)), rng.choice((0.4, 0.7)), rng.choice((2, 3)))
            fence = some_fence(rng, rng.choice((book, unread)), 0.8)
            house = wander(rng, House(fence), rng.choice((4, 8, 12)))
            book = fence.book
            told = house.risk()
            deeds = len(told[2]) if told[0] == "round" else 0
            if told[0] == "met" or not book.rivals or not wanted.get(deeds):
                continue
            wanted[deeds] -= 1
            self.right(house)
            crowd = Crowd(house.fence, 3 if deeds else 2, papers_of(house))
            self.same(crowd.fewest(deeds or 7), deeds or None)

    def test_where_it_tells_apart_those_who_are_there_never_meet(self):
        rng = random.Random(154)
        checked = 0
        while checked < 40:
            book = some_book(rng, rng.choice((3, 4)), 0.3, 0.6)
            house = wander(rng, House(some_fence(rng, book, 0.7)), 6)
            if book.rivals and house.risk()[0] == "apart":
                checked += 1
                for _ in range(4):
                    later = wander(rng, house.copy(), 25)
                    self.same([later.met(), later.risk()[0]], [None, "apart"])

    def test_a_way_round_can_be_gone_in_the_house(self):
        rng = random.Random(155)
        gone = 0
        while gone < 40:
            house = wander(rng, House(plain(some_book(rng, rng.choice((3, 4, 6)), 0.3, 0.6))), rng.choice((0, 3, 6)))
            told = house.risk()
            if told[0] == "round" and len(house) + len(told[1]) <= 8 and len(house.run) + len(told[2]) <= 40:
                gone += 1
                start, deeds = len(house), len(house.run)
                for kind in told[1]:
                    house.hire(kind)
                for person, word, client in told[2]:
                    getattr(house, word)(start + person, client)
                self.same(house.risk(), ("met", deeds + len(told[2]) - 1))

    def test_other_names_and_sequences_tell_the_same(self):
        rng = random.Random(156)
        for many in (3, 4, 5, 8) * 12:
            book = some_book(rng, many, 0.3, 0.6)
            house = wander(rng, House(some_fence(rng, book, 0.8)), 8)
            otherwise = Otherwise(rng, book)
            twin = House(otherwise.fence(house.fence))
            for kind in house.staff:
                twin.hire(otherwise.kinds[kind])
            for person, word, client in house.run:
                getattr(twin, word)(person, otherwise.names[client])
            told, again = self.right(house), self.right(twin)
            self.same([told[0], twin.met()], [again[0], house.met()])
            if told[0] == "round":
                self.same(len(told[2]), len(again[2]))
                self.shows(twin, ("round", otherwise.staff(told[1]), otherwise.run(told[2])))
            for person in range(len(house)):
                for call in ("looked", "holds", "knows"):
                    self.same(getattr(twin, call)(person), otherwise.lot(getattr(house, call)(person)))

    def test_with_a_pair_or_a_right_less(self):
        rng = random.Random(157)
        for _ in range(40):
            book = some_book(rng, 4, 0.3, 0.6)
            house = wander(rng, House(some_fence(rng, book, 0.6)), 6)
            if house.risk()[0] == "apart":
                papers = papers_of(house)
                for pair in house.fence.pairs:
                    self.assertTrue(told_closed(house.fence.closed(*pair),
                                                reachable(house.fence.closed(*pair), papers)))


class ShowsTest(RiskChecks):
    def test_met(self):
        steps = [("hire", "hand"), ("hire", "hand"), ("look", 0, "oil"), ("write", 0, "bank"), ("look", 1, "mill"),
                 ("look", 1, "bank")]
        house = led(plain(Book(TEXT)), *steps)
        way = ("round", ("hand",), ((0, "look", "oil"), (0, "look", "bank")))
        self.shows(house, ("met", 3))
        self.hides(house, ("met", 2), ("met", 4), ("met", "3"), ["met", 3], ("met",), ("met", 3, 3), ("Met", 3),
                   (3, "met"), 3, "met",
                   ("met", (3,)), ("met", None), (("met", 3),), apart(plain(Book(TEXT))), way, ("apart", (THREE,) * 3),
                   ("met", 3, ()),
                   ("apart",), {"met": 3}, ("met", True), ("met", -1))
        for value in odd_values():
            self.hides(house, value, ("met", value), (value, 3), ("met", 3, value), (value,))

    def test_true_is_not_one(self):
        kinds = (("one", ("oil",), ("bank",)), ("both", ("oil", "bank"), ()))
        book = Book(text_of(THREE, (("oil", "mill"),), (*kinds, ("other", ("mill",), ("bank",)))))
        house = led(plain(book), ("hire", "one"), ("hire", "other"), ("look", 0, "oil"), ("write", 0, "bank"),
                    ("look", 1, "mill"),
                    ("write", 1, "bank"), ("hire", "both"), ("look", 2, "bank"))
        self.shows(house, ("met", 4))
        self.hides(house, ("met", True), ("met", 4 == 4))
        two = Book(text_of(("a", "b", "x"), (("a", "b"),), (("hand", ("a", "b", "x"), ("x",)),)))
        papers = led(plain(two), ("hire", "hand"), ("look", 0, "a"), ("write", 0, "x"), ("hire", "hand"),
                     ("look", 1, "b"), ("look", 1, "x"))
        self.shows(papers, ("met", 3))
        self.hides(papers, ("met", True), ("met", 1), ("met", False), ("met", 0))

    def test_all_tables(self):
        rng = random.Random(158)
        lots = [lot for many in range(4) for lot in itertools.combinations(THREE, many)]
        shown = 0
        for steps in (0, 4, 8) * 5:
            kinds = (("one", ("oil",), ("bank",)), ("other", ("mill",), ("bank",)),
                     ("pen", ("bank",), ("oil",)))[:rng.choice((2, 3))]
            house = wander(rng, House(plain(Book(text_of(THREE, (("oil", "mill"),), kinds)))), steps)
            papers = papers_of(house)
            for table in itertools.product(lots, repeat=3):
                told = dict(zip(THREE, table))
                wanted = (house.met() is None and told_closed(house.fence, told)
                          and all(set(papers[client]) <= set(told[client]) for client in THREE))
                self.assertIs(house.shows_risk(("apart", table)), wanted)
                shown += wanted
        self.assertGreater(shown, 10)

    def test_tables_that_have_not_what_papers_bear(self):
        # The right by which the facts came there is not needed any more: a table that apart shows need not have them.
        book = Book(text_of(THREE, (), (("hand", THREE, THREE),)))
        house = led(Fence(book, (("oil", "bank"),)), ("hire", "hand"), ("look", 0, "oil"), ("write", 0, "bank"))
        self.shows(house, ("apart", (("oil",), ("oil", "bank"), ("mill",))), ("apart", (THREE, THREE, THREE)))
        self.hides(house, ("apart", (("oil",), ("bank",), ("mill",))), ("apart", (("oil",), ("oil", "bank"), ())))

    def test_facts_that_came_by_no_hop_of_newcomers(self):
        # Facts of two others come to the bank's papers, one of them by somebody who looked at both ends of a trail.
        book = Book(text_of(("a", "b", "c", "x"), (("a", "x"),), (("hand", ("a", "b"), ("b", "c")),
                                                                  ("eye", ("c", "x"), ()))))
        fence = Fence(book, (("a", "b"), ("b", "c"), ("a", "c")))
        house = led(fence, ("hire", "hand"), ("look", 0, "a"), ("write", 0, "c"))
        self.right(house, 2)
        self.hides(house, apart(fence))
        self.same(apart(fence)[0], "round")
        self.shows(house, ("round", ("eye",), ((0, "look", "c"), (0, "look", "x"))),
                   ("round", ("eye",), ((0, "look", "x"), (0, "look", "c"))))

    def test_ways_round(self):
        fence = plain(Book(TEXT))
        house = led(fence, ("hire", "hand"), ("look", 0, "oil"), ("write", 0, "bank"))
        run = ((0, "look", "bank"), (0, "look", "mill"))
        self.shows(house, ("round", ("hand",), run), ("round", ("hand",), run[::-1]))
        self.hides(house, ("round", ("hand",), ((0, "look", "mill"), (0, "write", "bank"), (0, "look", "bank"))),
                   ("round", ("hand",), run[:1]),
                   ("round", ("hand", "hand"), run), ("round", ("hand", "hand"),
                                                      ((0, "look", "bank"), (1, "look", "mill"))),
                   ("round", ("hand",), (*run, run[0])), ("round", ("hand",), (run[0], *run)), ("round", ["hand"], run),
                   ("round", ("hand",), list(run)), ["round", ("hand",), run], ("round", ("hand",)), ("round", run),
                   ("met", 1),
                   ("round", ("hand",), ((1, "look", "bank"), (1, "look", "mill"))), ("apart", (THREE,) * 3),
                   (("hand",), run), apart(fence),
                   ("round", ("hand",), ((False, "look", "bank"), (0, "look", "mill"))), ("round", ("hand",), run, ()),
                   ("met", None),
                   ("round", ("hand",), ((0, "look", "oil"), (0, "look", "bank"))), ("round", ("eye",), run),
                   ("round", (), ()),
                   ("round", ("hand",), ()), ("Round", ("hand",), run), ("round", run, ("hand",)), None, {"round": run},
                   "round")
        self.hides(House(fence), ("round", ("hand",), run))
        self.shows(House(fence), apart(fence))

    def test_all_short_runs(self):
        kinds = (("hand", ("oil", "bank"), ("bank",)), ("eye", ("bank", "mill"), ("bank",)))
        book = Book(text_of(THREE, (("oil", "mill"),), kinds))
        for steps in ((), (("hire", "hand"), ("look", 0, "oil"), ("write", 0, "bank"))):
            house = led(plain(book), *steps)
            papers, fewest = papers_of(house), len(house.risk()[2])
            shown = 0
            for staff in (("hand",), ("eye",), ("hand", "eye"), ("eye", "hand")):
                for deeds in range(4 if len(staff) == 2 else 5):
                    for run in itertools.product(rights_of(book, staff), repeat=deeds):
                        wanted = deeds == fewest and {deed[0] for deed in run} == set(range(len(staff)))
                        for at, deed in enumerate(run):
                            wanted = wanted and told_goes(plain(book), staff, run[:at], deed) and (
                                have_rivals(book, told_knowing(book, staff, run[:at + 1],
                                                               papers)[deed[0]]) == (at == deeds - 1))
                        self.assertIs(house.shows_risk(("round", staff, run)), wanted)
                        shown += wanted
            self.same(shown, 2 if steps else 0)

    def test_it_goes_with_the_house(self):
        house = led(plain(Book(TEXT)), ("hire", "hand"), ("look", 0, "oil"))
        ahead = house.risk()
        house.write(0, "bank")
        behind = house.risk()
        self.shows(house, behind)
        self.hides(house, ahead)
        house.undo()
        self.shows(house, ahead)
        self.hides(house, behind)
        with house.trial():
            house.redo()
            self.shows(house, behind)
        self.shows(house, ahead)

    def test_odd_values(self):
        for house in (House(plain(Book(TEXT))), House(walls(Book(TEXT))),
                      led(plain(Book(TEXT)), ("hire", "hand"), ("look", 0, "oil"))):
            told = house.risk()
            for value in [*odd_values(), (), deep(told, 30), house]:
                self.hides(house, value, (value,), ("apart", value), ("round", value, value), ("met", value),
                           (*told, value),
                           (value, *told[1:]), ("round", value, told[-1]), ("round", ("hand", "hand"), value),
                           ("apart", (value,) * 3))

    def test_of_eight_clients(self):
        book = Book(text_of(EIGHT, (), (("hand", EIGHT, EIGHT),)))
        house = wander(random.Random(159), House(plain(book)), 30)
        self.shows(house, ("apart", (EIGHT,) * 8))
        self.same(self.right(house)[0], "apart")
        self.assertTrue(any(lots for lots in told_stand(book, house.staff, house.run)[2]))
