"""Point 9: greatest lots, and whether a staff, and nobody else, can have a meeting by the read rule alone."""

import copy
import itertools
import random

from tests.helpers import (
    EIGHT, TEXT, Checks, Otherwise, deep, have_rivals, odd_values, rights_of, some_book, text_of, told_goes, told_stand,
)
from wallbooks import staffs as module
from wallbooks.apart import apart
from wallbooks.books import Book
from wallbooks.errors import BadStaff, NoKind, TooMany
from wallbooks.fences import plain
from wallbooks.runs import barred, meeting
from wallbooks.staffs import gathered, greatest, shows_gathered

THREE = ("oil", "bank", "mill")
TWO = ("hand", "hand")
RUN = ((0, "look", "oil"), (0, "write", "bank"), (1, "look", "mill"), (1, "look", "bank"))
# Of five of the clients each two are rivals, and the other two of seven: greatest lots by fives and by twos.
FIVES = text_of(EIGHT, [*itertools.combinations(EIGHT[:5], 2), EIGHT[5:7]],
                (("fives", EIGHT[:5], ()), ("twos", EIGHT[5:7], EIGHT[5:7]), ("ones", EIGHT[7:], ())))
# Of seven of the clients each two are rivals.
SEVENS = text_of(EIGHT, itertools.combinations(EIGHT[:7], 2),
                 (("sevens", EIGHT[:7], ()), ("threes", EIGHT[:2], EIGHT[1:3]), ("twos", EIGHT[:2], EIGHT[:2])))


def told_greatest(book, kind):
    """The greatest lots of a kind, by the words of point 9."""
    allowed = [client for client in book.clients if client in book.looks(kind) + book.writes(kind)]
    lots = [lot for many in range(len(allowed) + 1) for lot in itertools.combinations(allowed, many)
            if not have_rivals(book, lot)]
    return tuple(sorted(lot for lot in lots if not any(set(lot) < set(other) for other in lots)))


def told_meets(book, staff):
    """Whether a run of the staff by plain has a meeting: a going through all standings, with numbers for sets."""
    at = {client: number for number, client in enumerate(book.clients)}
    foes = [sum(1 << at[rival] for rival in book.rivals_of(client)) for client in book.clients]
    rights = [(person, word, at[client]) for person, word, client in rights_of(book, staff)]
    start = ((0, 0),) * len(staff), tuple(1 << number for number in range(len(foes)))
    latest, seen = [start], {start}
    while latest:
        people, papers = latest.pop()
        for person, word, client in rights:
            held, known = people[person]
            if held & foes[client]:
                continue
            held |= 1 << client
            borne = papers
            if word == "look":
                known |= papers[client]
                if any(known >> number & 1 and known & rivals for number, rivals in enumerate(foes)):
                    return True
            else:
                borne = (*papers[:client], papers[client] | known, *papers[client + 1:])
            after = (*people[:person], (held, known), *people[person + 1:]), borne
            if after not in seen:
                seen.add(after)
                latest.append(after)
    return False


class StaffsChecks(Checks):
    def right(self, book, staff):
        """What gathered tells is right if a meeting is told, and has the form that is told for it."""
        told = gathered(book, staff)
        self.assertIs(shows_gathered(book, staff, told), True)
        if told[0] == "apart":
            self.same(told, ("apart",))
        else:
            self.same((told[0], len(told)), ("meet", 2))
            self.meets(book, staff, told[1])
            self.assertLessEqual(len(told[1]), 16)
        return told

    def meets(self, book, staff, run):
        self.assertIsNone(barred(plain(book), staff, run))
        self.assertIsNotNone(meeting(book, staff, run))
        for at, deed in enumerate(run):
            self.assertTrue(told_goes(plain(book), staff, run[:at], deed))
        self.assertTrue(any(have_rivals(book, lot) for lot in told_stand(book, staff, run)[2]))


class InterfaceTest(StaffsChecks):
    def test_functions_are_defined_in_the_file(self):
        for name in ("greatest", "gathered", "shows_gathered"):
            self.assertEqual(getattr(module, name).__module__, "wallbooks.staffs")

    def test_by_name(self):
        book = Book(TEXT)
        self.same(greatest(kind="hand", book=book), greatest(book, "hand"))
        self.same(gathered(staff=TWO, book=book), gathered(book, TWO))
        self.assertIs(shows_gathered(value=("meet", RUN), staff=TWO, book=book), True)

    def test_equal_calls_and_what_is_handed_in(self):
        book = Book(TEXT)
        value = [["meet", list(RUN)], {"a": [book]}]
        kept = copy.deepcopy(value)
        first = [greatest(book, "hand"), gathered(book, TWO), gathered(book, ("hand",))]
        self.assertIs(shows_gathered(book, TWO, value), False)
        self.same([greatest(Book(TEXT), "hand"), gathered(Book(TEXT), TWO), gathered(book, ("hand",))], first)
        self.same(value, kept)
        self.assertEqual(book, Book(TEXT))


class GreatestTest(StaffsChecks):
    def test_against_all_lots(self):
        rng = random.Random(90)
        for many in (2, 3, 4, 5, 6, 7, 8) * 15:
            book = some_book(rng, many, rng.choice((0, 0.2, 0.5, 0.8, 1)), rng.choice((0.1, 0.4, 0.8, 1)))
            for kind in book.kinds:
                self.same(greatest(book, kind), told_greatest(book, kind))

    def test_by_hand(self):
        kinds = (("none", (), ()), ("eye", ("oil",), ()), ("pen", (), ("mill",)), ("both", ("mill",), ("oil",)))
        book = Book(text_of(THREE, (("oil", "mill"),), kinds))
        self.same([greatest(book, kind) for kind in book.kinds],
                  [((),), (("oil",),), (("mill",),), (("mill",), ("oil",))])
        self.same(greatest(Book(TEXT), "hand"), (("bank", "mill"), ("oil", "bank")))

    def test_no_rivals_and_all(self):
        free = Book(text_of(EIGHT, (), (("hand", EIGHT[:4], EIGHT[2:]), ("none", (), ()))))
        self.same([greatest(free, "hand"), greatest(free, "none")], [(EIGHT,), ((),)])
        every = Book(text_of(EIGHT, itertools.combinations(EIGHT, 2), (("hand", EIGHT[:4], EIGHT[2:]),
                                                                       ("none", (), ()))))
        self.same([greatest(every, "hand"), greatest(every, "none")],
                  [tuple(sorted((client,) for client in EIGHT)), ((),)])

    def test_clients_in_sequence_and_lots_ascending(self):
        book = Book(text_of(("z", "a", "y", "b"), (("z", "b"),), (("hand", ("z", "b"), ("a", "y")),)))
        self.same(greatest(book, "hand"), (("a", "y", "b"), ("z", "a", "y")))

    def test_no_kind(self):
        book = Book(TEXT)
        for value in [*odd_values(), "oil", "bank", "look", ("hand",), ["hand"], {"hand": 1}, deep("hand", 30),
                      "hand "]:
            self.keeps(NoKind, value, greatest, book, value)


class GatheredTest(StaffsChecks):
    def test_the_book_of_the_document(self):
        book = Book(TEXT)
        self.same(self.right(book, ("hand",)), ("apart",))
        for many in range(2, 9):
            self.same(self.right(book, ("hand",) * many)[0], "meet")

    def test_against_all_standings(self):
        rng = random.Random(91)
        words = []
        for clients, people in ((2, 2), (3, 1), (3, 2), (3, 2), (3, 3), (4, 2), (4, 2)) * 12:
            book = some_book(rng, clients, rng.choice((0.3, 0.6)), rng.choice((0.4, 0.7, 0.9)))
            staff = tuple(rng.choice(book.kinds) for _ in range(people))
            told = self.right(book, staff)
            self.same(told[0], "meet" if told_meets(book, staff) else "apart")
            words.append(told[0])
        self.assertGreater(min(words.count("meet"), words.count("apart")), 12)

    def test_one_person_never_has_a_meeting(self):
        rng = random.Random(92)
        for many in (2, 3, 4, 6, 8) * 12:
            book = some_book(rng, many, rng.choice((0.1, 0.3, 0.6)), rng.choice((0.5, 1)))
            for kind in book.kinds:
                self.same(self.right(book, (kind,)), ("apart",))

    def test_no_rivals_and_all_rivals(self):
        for many in (2, 3, 8):
            clients = EIGHT[:many]
            free = Book(text_of(clients, (), (("hand", clients, clients),)))
            every = Book(text_of(clients, itertools.combinations(clients, 2), (("hand", clients, clients),)))
            self.same(self.right(free, ("hand",) * 8), ("apart",))
            self.same([self.right(every, ("hand",) * people) for people in (1, 2, 3)], [("apart",)] * 3)

    def test_who_is_there_decides(self):
        kinds = (("one", ("oil",), ("bank",)), ("other", ("mill",), ("bank",)), ("eye", ("bank",), ()), ("no", (), ()))
        book = Book(text_of(THREE, (("oil", "mill"),), kinds))
        for staff in itertools.product(book.kinds, repeat=3):
            wanted = "meet" if set(staff) == {"one", "other", "eye"} else "apart"
            self.same(self.right(book, staff)[0], wanted)
        self.same(self.right(book, ("one", "one", "other", "no", "no", "other", "no", "eye"))[0], "meet")
        self.same(self.right(book, ("one", "one", "other", "no", "no", "other", "no", "one"))[0], "apart")

    def test_people_who_need_to_hold_other_lots_than_their_first(self):
        # Each has a rival of a client of the row that comes ahead of it among the greatest lots.
        clients = ("a", "b", "c", "z", "y", "x")
        kinds = (("one", ("a", "z"), ("b", "z")), ("other", ("b", "y"), ("c", "y")), ("eye", ("c", "x"), ()))
        book = Book(text_of(clients, (("a", "x"), ("a", "y"), ("b", "z"), ("c", "y")), kinds))
        self.same(self.right(book, ("one", "other", "eye"))[0], "meet")
        self.same(self.right(book, ("one", "one", "eye")), ("apart",))
        self.same(self.right(book, ("eye", "other", "other")), ("apart",))

    def test_two_people_cannot_do_what_three_can(self):
        # The second step needs somebody who does not hold the rival that the last one has to look at.
        clients = ("a", "b", "c", "d", "x")
        kinds = (("hand", clients, clients),)
        book = Book(text_of(clients, (("a", "x"), ("b", "x")), kinds))
        for people in (1, 2, 3):
            self.same(self.right(book, ("hand",) * people)[0], "meet" if told_meets(book,
                                                                                    ("hand",) * people) else "apart")

    def test_a_row_of_four_people(self):
        clients = tuple("abcdx")
        kinds = (("p", ("a",), ("b",)), ("q", ("b",), ("c",)), ("r", ("c",), ("d",)), ("s", ("d", "x"), ()))
        book = Book(text_of(clients, (("a", "x"),), kinds))
        self.same(len(self.right(book, ("s", "q", "p", "r"))[1]), 8)
        self.same(self.right(book, ("p", "p", "q", "q", "r", "r", "s", "s"))[0], "meet")
        for kind in book.kinds:
            self.same(self.right(book, tuple(other for other in book.kinds if other != kind) * 2), ("apart",))

    def test_a_right_less_and_more(self):
        rng = random.Random(93)
        for many in (3, 4, 5, 6) * 6:
            book = some_book(rng, many, 0.3, rng.choice((0.4, 0.7)), 2)
            staff = tuple(rng.choice(book.kinds) for _ in range(3))
            if gathered(book, staff) == ("apart",):
                for kind in book.kinds:
                    for word, lot in (("look", book.looks(kind)), ("write", book.writes(kind))):
                        for client in lot:
                            self.same(gathered(book.without_right(kind, word, client), staff), ("apart",))

    def test_as_any_number_of_people(self):
        rng = random.Random(94)
        rounds = 0
        for many in (3, 4, 5, 6, 8) * 15:
            book = some_book(rng, many, rng.choice((0.1, 0.3)), rng.choice((0.3, 0.6)))
            told = apart(plain(book))
            if told[0] == "round":
                rounds += 1
                self.same(self.right(book, told[1])[0], "meet")
                self.assertIs(shows_gathered(book, told[1], ("meet", told[2])), True)
            else:
                for _ in range(3):
                    self.same(self.right(book, tuple(rng.choice(book.kinds) for _ in range(4))), ("apart",))
        self.assertGreater(rounds, 15)

    def test_more_people_meet_too(self):
        rng = random.Random(95)
        for many in (3, 4, 5) * 12:
            book = some_book(rng, many, 0.3, 0.6)
            staff = tuple(rng.choice(book.kinds) for _ in range(3))
            if gathered(book, staff)[0] == "meet":
                self.same(self.right(book, (rng.choice(book.kinds), *staff, rng.choice(book.kinds)))[0], "meet")
            else:
                self.same(self.right(book, staff[1:]), ("apart",))

    def test_other_names_and_sequences_tell_the_same(self):
        rng = random.Random(96)
        for many in (2, 3, 4, 5, 6, 8) * 8:
            book = some_book(rng, many, rng.choice((0.2, 0.5)), rng.choice((0.4, 0.8)))
            otherwise = Otherwise(rng, book)
            for kind in book.kinds:
                named = [otherwise.lot(lot) for lot in greatest(book, kind)]
                self.same(greatest(otherwise.book, otherwise.kinds[kind]), tuple(sorted(named)))
            staff = tuple(rng.choice(book.kinds) for _ in range(rng.choice((2, 3))))
            told, again = self.right(book, staff), self.right(otherwise.book, otherwise.staff(staff))
            self.same(told[0], again[0])
            if told[0] == "meet":
                again = ("meet", otherwise.run(told[1]))
            self.assertIs(shows_gathered(otherwise.book, otherwise.staff(staff), again), True)

    def test_staffs_in_another_sequence(self):
        kinds = (("one", ("oil",), ("bank",)), ("other", ("mill",), ("bank",)), ("eye", ("bank",), ()))
        book = Book(text_of(THREE, (("oil", "mill"),), kinds))
        for staff in itertools.permutations(book.kinds):
            told = self.right(book, staff)
            self.same((told[0], staff[told[1][-1][0]]), ("meet", "eye"))


class ErrorsTest(StaffsChecks):
    def many(self, book, staff):
        product = 1
        for kind in staff:
            product *= len(told_greatest(book, kind))
        return product

    def fine(self, book, staff, wanted):
        self.same(self.many(book, staff), wanted)
        self.right(book, staff)

    def too_many(self, book, staff, wanted):
        self.same(self.many(book, staff), wanted)
        self.refuses(TooMany, 2000, gathered, book, staff)
        for value in (("apart",), None, ("meet", ())):
            self.refuses(TooMany, 2000, shows_gathered, book, staff, value)

    def test_just_2000(self):
        book = Book(FIVES)
        self.fine(book, ("fives",) * 3 + ("twos",) * 4, 2000)
        self.fine(book, ("twos", "fives") * 3 + ("twos", "ones"), 2000)
        self.fine(book, ("fives",) * 4 + ("twos",), 1250)

    def test_above_2000(self):
        self.too_many(Book(FIVES), ("fives",) * 3 + ("twos",) * 5, 4000)
        self.too_many(Book(FIVES), ("fives",) * 4 + ("twos",) * 2, 2500)
        self.too_many(Book(SEVENS), ("sevens", "threes", "threes") + ("twos",) * 5, 2016)
        self.fine(Book(SEVENS), ("sevens", "threes", "threes") + ("twos",) * 4, 1008)
        self.too_many(Book(SEVENS), ("sevens",) * 8, 7 ** 8)
        self.fine(Book(SEVENS), ("sevens",) * 3, 343)

    def test_staffs_of_one_and_of_eight(self):
        book = Book(TEXT)
        self.fine(book, ("hand",), 2)
        self.fine(book, ("hand",) * 8, 256)
        for staff in ((), ("hand",) * 9):
            self.keeps(BadStaff, staff, gathered, book, staff)
            self.keeps(BadStaff, staff, shows_gathered, book, staff, ("apart",))

    def test_bad_staffs(self):
        book = Book(TEXT)
        for value in odd_values():
            for staff in (value, (value,), ("hand", value), (value, *TWO)):
                self.keeps(BadStaff, staff, gathered, book, staff)
                self.keeps(BadStaff, staff, shows_gathered, book, staff, ("apart",))
        for staff in ("hand", ["hand"], (("hand",),), ("Hand",), ("hand", "oil"), {"hand": 1}, ("hand", True)):
            self.keeps(BadStaff, staff, gathered, book, staff)
            self.keeps(BadStaff, staff, shows_gathered, book, staff, gathered)

    def test_bad_staffs_come_ahead_of_too_many(self):
        staff = ("sevens",) * 8 + ("sevens",)
        self.keeps(BadStaff, staff, gathered, Book(SEVENS), staff)
        staff = ("sevens",) * 7 + ("none",)
        self.keeps(BadStaff, staff, gathered, Book(SEVENS), staff)
        self.keeps(BadStaff, staff, shows_gathered, Book(SEVENS), staff, None)


class ShowsTest(StaffsChecks):
    def shows(self, book, staff, *values):
        for value in values:
            self.assertIs(shows_gathered(book, staff, value), True, value)

    def hides(self, book, staff, *values):
        for value in values:
            self.assertIs(shows_gathered(book, staff, value), False, value)

    def test_all_short_runs(self):
        kinds = (("hand", ("oil", "bank"), ("bank",)), ("eye", ("bank", "mill"), ("bank",)))
        book, staff = Book(text_of(THREE, (("oil", "mill"),), kinds)), ("hand", "eye")
        shown = 0
        for deeds in range(5):
            for run in itertools.product(rights_of(book, staff), repeat=deeds):
                goes = all(told_goes(plain(book), staff, run[:at], deed) for at, deed in enumerate(run))
                wanted = goes and any(have_rivals(book, lot) for lot in told_stand(book, staff, run)[2])
                self.assertIs(shows_gathered(book, staff, ("meet", run)), wanted)
                shown += wanted
        self.assertGreater(shown, 5)

    def test_forty_deeds_and_deeds_behind_the_meeting(self):
        book = Book(TEXT)
        for many in range(4, 41):
            self.shows(book, TWO, ("meet", (RUN[0],) * (many - 4) + RUN), ("meet", RUN + (RUN[3],) * (many - 4)))
        self.hides(book, TWO, ("meet", (RUN[0],) * 37 + RUN), ("meet", RUN + (RUN[3],) * 37))
        self.shows(book, TWO, ("meet", (*RUN, (0, "look", "bank"))), ("meet", (*RUN, (1, "write", "mill"))))

    def test_a_deed_that_plain_bars(self):
        book = Book(TEXT)
        self.hides(book, TWO, ("meet", (*RUN, (0, "look", "mill"))), ("meet", (*RUN, (1, "write", "oil"))),
                   ("meet", ((1, "write", "oil"), *RUN)), ("meet", ((0, "look", "oil"), (0, "look", "mill"))))

    def test_near_to_a_run(self):
        book = Book(TEXT)
        self.shows(book, TWO, ("meet", RUN), ("meet", RUN[2:3] + RUN[:2] + RUN[3:]))
        for at in range(4):
            self.hides(book, TWO, ("meet", RUN[:at] + RUN[at + 1:]), ("meet",
                                                                      RUN[:at] + (list(RUN[at]),) + RUN[at + 1:]))
            for deed in ((True, "look", "oil"), (2, "look", "oil"), (-1, "look", "oil"), (0, "Look", "oil"),
                         (0, "look"),
                         (0, "look", "rail"), (0, "look", "oil", "oil"), (0, "look", ("oil",)), ()):
                self.hides(book, TWO, ("meet", RUN[:at] + (deed,) + RUN[at:]),
                           ("meet", RUN[:at] + (deed,) + RUN[at + 1:]))
        self.hides(book, TWO, ("meet", list(RUN)), ["meet", RUN], ("Meet", RUN), ("round", RUN), ("round", TWO, RUN),
                   RUN,
                   ("meet",), ("meet", RUN, ()), ("meet", TWO, RUN), ("apart",), ("apart", RUN), ("meet", ()),
                   ("meet", None),
                   (RUN, "meet"), (("meet", RUN),), ("meet", (RUN,)), {"meet": RUN}, "meet", (), ("meet", RUN[::-1]),
                   ("meet", RUN, None), ("apart", ()), ("meet", (RUN[1], RUN[0], *RUN[2:])))

    def test_of_a_staff_that_is_kept_apart(self):
        book = Book(TEXT)
        staff = ("hand",)
        self.shows(book, staff, ("apart",))
        self.hides(book, staff, ("meet", RUN), ("apart", ()), ["apart"], "apart", ("Apart",), (("apart",),),
                   ("apart", "apart"),
                   ("meet", ()), ("meet", ((0, "look", "oil"),)), ("meet", ((0, "look", "oil"), (0, "look", "mill"))),
                   (), None,
                   {"apart": ()}, ("apart", None), ("meet",))

    def test_of_another_staff_or_book(self):
        kinds = (("hand", THREE, THREE), ("eye", THREE, ()), ("pen", (), THREE))
        book = Book(text_of(THREE, (("oil", "mill"),), kinds))
        self.shows(book, TWO, ("meet", RUN))
        self.shows(book, ("hand", "eye"), ("meet", RUN))
        self.shows(book, ("hand", "eye", "pen"), ("meet", RUN))
        self.hides(book, ("eye", "hand"), ("meet", RUN), ("apart",))
        self.hides(book, ("hand",), ("meet", RUN))
        self.hides(book, ("pen", "pen"), ("meet", RUN))
        self.hides(book.without_rivals("oil", "mill"), TWO, ("meet", RUN))
        self.hides(book.with_rivals("oil", "bank"), TWO, ("meet", RUN))
        self.hides(book.without_right("hand", "write", "bank"), TWO, ("meet", RUN))
        self.hides(Book(TEXT.replace("oil", "rail")), TWO, ("meet", RUN), ("apart",))
        self.hides(book.with_rivals("oil", "bank").with_rivals("bank", "mill"), TWO, ("meet", RUN))
        self.shows(book.with_rivals("oil", "bank").with_rivals("bank", "mill"), TWO, ("apart",))

    def test_odd_values(self):
        book = Book(TEXT)
        for staff in (TWO, ("hand",)):
            for value in [*odd_values(), (), deep(("meet", RUN), 30), deep(RUN, 29), deep(("apart",), 30)]:
                self.hides(book, staff, value, ("meet", value), ("apart", value), (value,), (value, RUN),
                           ("meet", RUN, value),
                           ("meet", (value,)), ("meet", (*RUN, value)), ("meet", (*RUN, (1, value, "bank"))),
                           ("meet", (*RUN, (1, "look", value))))
                if value not in (0, 1) or isinstance(value, bool):
                    self.hides(book, staff, ("meet", (*RUN, (value, "look", "bank"))))
