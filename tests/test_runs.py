"""Point 6: runs, what stands behind them, where there is a meeting, and where they do not go by a fence, or by facts."""

import copy
import itertools
import random

from tests.helpers import (
    EIGHT, TEXT, Checks, deep, have_rivals, odd_values, rights_of, some_book, some_fence, text_of, told_goes, told_stand,
)
from wallbooks import runs
from wallbooks.books import Book
from wallbooks.errors import BadRun, BadStaff
from wallbooks.fences import Fence, bare, plain, walls
from wallbooks.runs import barred, barred_by_facts, meeting, stand

STAFF = ("hand", "hand")
RUN = ((0, "look", "oil"), (0, "write", "bank"), (1, "look", "mill"), (1, "look", "bank"))
KINDS = (("none", (), ()), ("eye", ("oil", "bank"), ()), ("pen", (), ("bank", "mill")), ("hand", ("mill",), ("oil",)))


def told_meeting(book, staff, run):
    """What meeting tells, by its words."""
    for at, (person, _, _) in enumerate(run):
        if have_rivals(book, told_stand(book, staff, run[:at + 1])[2][person]):
            return at
    return None


def told_barred(fence, staff, run):
    """What barred tells, by its words."""
    for at, deed in enumerate(run):
        if not told_goes(fence, staff, run[:at], deed):
            return at
    return None


def told_by_facts(book, staff, run):
    """What barred_by_facts tells, by its words."""
    for at in range(len(run)):
        _, _, known, papers = told_stand(book, staff, run[:at + 1])
        if any(have_rivals(book, lot) for lot in [*known, *papers.values()]):
            return at
    return None


def some_run(rng, book, staff, most, fence=None):
    """A run of up to so many deeds, each of which goes by the fence if there is one."""
    run = ()
    for _ in range(rng.randint(0, most)):
        deeds = [deed for deed in rights_of(book, staff) if fence is None or told_goes(fence, staff, run, deed)]
        if not deeds:
            break
        run += (rng.choice(deeds),)
    return run


class InterfaceTest(Checks):
    def test_functions_are_defined_in_the_file(self):
        for name in ("stand", "meeting", "barred", "barred_by_facts"):
            self.assertEqual(getattr(runs, name).__module__, "wallbooks.runs")

    def test_by_name(self):
        book = Book(TEXT)
        self.same(stand(run=RUN, staff=STAFF, book=book), stand(book, STAFF, RUN))
        self.same(meeting(run=RUN, staff=STAFF, book=book), 3)
        self.same(barred(run=RUN, staff=STAFF, fence=walls(book)), 1)
        self.same(barred_by_facts(run=RUN, staff=STAFF, book=book), 3)

    def test_numbers_are_no_bools(self):
        book = Book(TEXT)
        run = (RUN[0], (0, "look", "mill"))
        for told in (meeting(book, STAFF, run), barred(plain(book), STAFF, run), barred_by_facts(book, STAFF, run)):
            self.same(told, 1)

    def test_equal_calls_and_what_is_handed_in(self):
        book, staff, run = Book(TEXT), STAFF, RUN
        fence, before = walls(book), copy.deepcopy((TEXT, STAFF, RUN))
        first = [stand(book, staff, run), meeting(book, staff, run), barred(fence, staff, run),
                 barred_by_facts(book, staff, run)]
        again = [stand(book, staff, run), meeting(book, staff, run), barred(fence, staff, run),
                 barred_by_facts(book, staff, run)]
        self.same(first, again)
        self.same((book.text, staff, run), before)
        self.assertEqual(fence, walls(Book(TEXT)))


class ByHandTest(Checks):
    def setUp(self):
        self.book = Book(TEXT)

    def test_the_empty_run(self):
        lots = (("oil",), ("bank",), ("mill",))
        for many in (1, 2, 8):
            staff = ("hand",) * many
            self.same(stand(self.book, staff, ()), ((((), (), ()),) * many, lots))
            self.assertIsNone(meeting(self.book, staff, ()))
            self.assertIsNone(barred(bare(self.book), staff, ()))
            self.assertIsNone(barred_by_facts(self.book, staff, ()))

    def test_behind_each_deed(self):
        nobody = ((), (), ())
        oil, mill = (("oil",), ("oil",), ("oil",)), (("mill",), ("mill",), ("mill",))
        wrote = (("oil",), ("oil", "bank"), ("oil",))
        lots = (("oil",), ("bank",), ("mill",))
        borne = (("oil",), ("oil", "bank"), ("mill",))
        self.same(stand(self.book, STAFF, RUN[:1]), ((oil, nobody), lots))
        self.same(stand(self.book, STAFF, RUN[:2]), ((wrote, nobody), borne))
        self.same(stand(self.book, STAFF, RUN[:3]), ((wrote, mill), borne))
        both = (("bank", "mill"), ("bank", "mill"), ("oil", "bank", "mill"))
        self.same(stand(self.book, STAFF, RUN), ((wrote, both), borne))

    def test_writing_without_knowing_anything(self):
        run = ((0, "write", "bank"), (0, "write", "oil"), (0, "write", "bank"))
        self.same(stand(self.book, ("hand",), run),
                  ((((), ("oil", "bank"), ()),), (("oil",), ("bank",), ("mill",))))
        self.assertIsNone(barred(bare(self.book), ("hand",), run))

    def test_what_was_written_earlier_is_not_known(self):
        run = ((0, "write", "bank"), (1, "look", "oil"), (1, "write", "bank"))
        self.same(stand(self.book, STAFF, run)[0][0], ((), ("bank",), ()))
        self.same(stand(self.book, STAFF, (*run, (0, "look", "bank")))[0][0], (("bank",), ("bank",), ("oil", "bank")))

    def test_what_is_looked_at_later_is_not_written(self):
        run = ((0, "write", "bank"), (0, "look", "oil"))
        self.same(stand(self.book, ("hand",), run)[1], (("oil",), ("bank",), ("mill",)))

    def test_papers_tell_what_came_behind_the_look_to_those_who_look_again(self):
        run = ((0, "look", "bank"), *((1, word, client) for _, word, client in RUN[:2]))
        self.same(stand(self.book, STAFF, run)[0][0], (("bank",), ("bank",), ("bank",)))
        again = stand(self.book, STAFF, (*run, (0, "look", "bank")))
        self.same(again[0][0], (("bank",), ("bank",), ("oil", "bank")))
        self.same(again[1], (("oil",), ("oil", "bank"), ("mill",)))

    def test_looking_again_tells_nothing_new(self):
        run = ((0, "look", "bank"), (0, "look", "bank"))
        self.same(stand(self.book, ("hand",), run), stand(self.book, ("hand",), run[:1]))

    def test_writing_into_papers_looked_at(self):
        run = ((0, "look", "bank"), (0, "write", "bank"))
        self.same(stand(self.book, ("hand",), run), stand(self.book, ("hand",), run[:1]))
        self.assertIsNone(barred(bare(self.book), ("hand",), run))

    def test_facts_that_lie_unread(self):
        run = ((0, "look", "oil"), (0, "write", "bank"), (1, "look", "mill"), (1, "write", "bank"))
        people, papers = stand(self.book, STAFF, run)
        self.same([lots[2] for lots in people], [("oil",), ("mill",)])
        self.same(papers, (("oil",), ("oil", "bank", "mill"), ("mill",)))
        self.assertIsNone(meeting(self.book, STAFF, run))
        self.assertIsNone(barred(plain(self.book), STAFF, run))
        self.same(barred_by_facts(self.book, STAFF, run), 3)
        self.same(meeting(self.book, (*STAFF, "hand"), (*run, (2, "write", "bank"), (2, "look", "bank"))), 5)

    def test_the_first_meeting_counts(self):
        run = (*RUN, (1, "write", "bank"), (0, "look", "bank"), (0, "look", "oil"))
        self.same([meeting(self.book, STAFF, run), barred_by_facts(self.book, STAFF, run)], [3, 3])

    def test_a_meeting_of_one_who_breaks_the_read_rule(self):
        run = ((0, "look", "oil"), (0, "look", "bank"), (0, "look", "mill"))
        self.same([meeting(self.book, ("hand",), run), barred(plain(self.book), ("hand",), run)], [2, 2])

    def test_the_read_rule_is_about_what_is_held(self):
        for first, second in itertools.product(("look", "write"), repeat=2):
            run = ((0, first, "mill"), (0, second, "oil"))
            self.same(barred(plain(self.book), ("hand",), run), 1)
            self.assertIsNone(barred(plain(self.book), STAFF, (run[0], (1, second, "oil"))))
            self.assertIsNone(barred(plain(self.book), ("hand",), (run[0], (0, second, "mill"))))
            self.assertIsNone(barred(plain(self.book), ("hand",), (run[0], (0, second, "bank"))))

    def test_the_fence_is_about_what_was_looked_at(self):
        fence = Fence(self.book, (("oil", "bank"),))
        for run, at in ((((0, "look", "oil"), (0, "write", "bank")), None), (((0, "look", "bank"), (0, "write", "oil")), 1),
                        (((0, "write", "bank"), (0, "look", "oil"), (0, "write", "bank")), None),
                        (((0, "write", "bank"), (0, "write", "oil"), (0, "look", "bank"), (0, "write", "bank")), None),
                        (((0, "look", "oil"), (0, "look", "bank"), (0, "write", "bank"), (0, "write", "oil")), 3),
                        (((0, "look", "mill"), (0, "look", "bank"), (0, "write", "bank")), 2)):
            self.same(barred(fence, ("hand",), run), at)

    def test_a_fence_bars_no_look(self):
        run = ((0, "look", "oil"), (0, "look", "bank"), (0, "look", "oil"))
        self.assertIsNone(barred(bare(self.book), ("hand",), run))

    def test_by_facts_asks_nobody_what_they_hold(self):
        run = ((0, "write", "oil"), (0, "look", "mill"), (0, "write", "mill"))
        self.assertIsNone(barred_by_facts(self.book, ("hand",), run))
        self.same(barred(plain(self.book), ("hand",), run), 1)
        self.same(barred_by_facts(self.book, ("hand",), (*run, (0, "write", "oil"))), 3)

    def test_nobody_is_their_own_rival(self):
        book = Book(text_of(EIGHT, itertools.combinations(EIGHT, 2), (("hand", EIGHT, EIGHT),)))
        run = tuple((at, word, client) for at, client in enumerate(EIGHT) for word in ("look", "write", "look"))
        self.assertIsNone(meeting(book, ("hand",) * 8, run))
        self.assertIsNone(barred(bare(book), ("hand",) * 8, run))
        self.assertIsNone(barred_by_facts(book, ("hand",) * 8, run))


class ByTheWordsTest(Checks):
    """Against a going through deed by deed, with sets."""

    def alike(self, fence, staff, run):
        book = fence.book
        told = told_stand(book, staff, run)
        people, papers = stand(book, staff, run)
        lots = [[tuple(client for client in book.clients if client in lot) for lot in part] for part in told[:3]]
        self.same(people, tuple(zip(*lots)))
        self.same(papers, tuple(tuple(one for one in book.clients if one in told[3][client]) for client in book.clients))
        self.same(meeting(book, staff, run), told_meeting(book, staff, run))
        self.same(barred(fence, staff, run), told_barred(fence, staff, run))
        self.same(barred_by_facts(book, staff, run), told_by_facts(book, staff, run))

    def test_all_short_runs_of_two(self):
        book = Book(text_of(("oil", "bank", "mill"), (("mill", "oil"),),
                            (("hand", ("oil", "bank"), ("bank", "mill")), ("eye", ("bank", "mill"), ("oil",)))))
        staff = ("eye", "hand")
        fences = itertools.cycle((plain(book), bare(book), walls(book), Fence(book, (("oil", "bank"),))))
        for many in range(4):
            for run in itertools.product(rights_of(book, staff), repeat=many):
                self.alike(next(fences), staff, run)

    def test_longer_runs(self):
        rng = random.Random(6)
        for many in (2, 3, 4, 5, 8) * 30:
            book = some_book(rng, many, rng.choice((0, 0.2, 0.5, 1)), rng.choice((0.5, 0.8, 1)))
            staff = tuple(rng.choice(book.kinds) for _ in range(rng.randint(1, 8)))
            for fence in (plain(book), bare(book), walls(book), some_fence(rng, book)):
                self.alike(fence, staff, some_run(rng, book, staff, 8))
                self.alike(fence, staff, some_run(rng, book, staff, 10, fence))

    def test_runs_of_forty_deeds(self):
        rng = random.Random(40)
        book = some_book(rng, 8, 0.2, 1)
        staff = tuple(rng.choice(book.kinds) for _ in range(8))
        run = ()
        while len(run) < 40:
            run = some_run(rng, book, staff, 60)[:40]
        self.alike(walls(book), staff, run)

    def test_runs_by_walls_go_by_facts_and_those_have_no_meeting(self):
        rng = random.Random(3)
        for many in (2, 3, 4, 6, 8) * 30:
            book = some_book(rng, many, rng.choice((0.1, 0.3, 0.6)), rng.choice((0.6, 1)))
            staff = tuple(rng.choice(book.kinds) for _ in range(rng.randint(1, 5)))
            run = some_run(rng, book, staff, 16, walls(book))
            self.assertIsNone(barred(walls(book), staff, run))
            self.assertIsNone(barred_by_facts(book, staff, run))
            self.assertIsNone(meeting(book, staff, run))
            run = some_run(rng, book, staff, 16)
            end = barred_by_facts(book, staff, run)
            self.assertIsNone(meeting(book, staff, run[:end]))

    def test_other_names_and_sequences_tell_the_same(self):
        names = {"oil": "z", "bank": "m", "mill": "a", "hand": "pen"}
        book = Book(TEXT)
        other = Book(text_of(("a", "z", "m"), (("a", "z"),), (("pen", ("a", "z", "m"), ("a", "z", "m")),)))
        run = tuple((person, word, names[client]) for person, word, client in RUN)
        self.same([meeting(other, ("pen",) * 2, run), barred(walls(other), ("pen",) * 2, run)], [3, 1])
        people, papers = stand(book, STAFF, RUN)
        renamed, borne = stand(other, ("pen",) * 2, run)
        for elder, newer in zip(people, renamed):
            self.same([{names[client] for client in lot} for lot in elder], [set(lot) for lot in newer])
        for client, lot in zip(book.clients, papers):
            self.same({names[one] for one in lot}, set(borne[other.clients.index(names[client])]))


class WrongTest(Checks):
    def setUp(self):
        self.book = Book(text_of(("oil", "bank", "mill"), (("oil", "mill"),), KINDS))
        self.calls = [(stand, self.book), (meeting, self.book), (barred, plain(self.book)),
                      (barred_by_facts, self.book)]

    def test_bad_staff(self):
        kinds = ["oil", "hands", "Hand", "hand ", "", None, True, 0, ("hand",), ["hand"], {"hand": 1}, self.book,
                 bare(self.book), deep("hand", 29)]
        staffs = [*odd_values(), (), ("hand",) * 9, ("hand", "eye", "pen") * 3, "hand", ["hand"], {"hand": "hand"},
                  {0: "hand"}, self.book, (self.book,), ((),), (("hand", "hand"),), deep("hand", 30)]
        staffs += [(kind,) for kind in kinds] + [("hand", kind, "pen") for kind in kinds] + [("hand",) * 7 + ("oil",)]
        for value in staffs:
            for call, where in self.calls:
                self.keeps(BadStaff, value, call, where, value, ())
                self.keeps(BadStaff, value, call, where, value, None)

    def test_staffs_of_one_and_eight(self):
        for staff in (("none",), ("pen",), ("none", "eye", "pen", "hand") * 2, ("hand",) * 8):
            for call, where in self.calls:
                call(where, staff, ())

    def test_bad_staff_comes_ahead_of_bad_run(self):
        for call, where in self.calls:
            self.keeps(BadStaff, value := ["hand"], call, where, value, [1])
            self.keeps(BadRun, value := [1], call, where, ("hand",), value)

    def test_bad_run(self):
        deed = (0, "look", "mill")
        for value in [*odd_values(), "", deed, [deed], (deed, [0, "look", "mill"]), {deed: deed}, {}, 0, (0, 1, 2),
                      ((),), ((deed,),), (None,), (deed, None), (deed, True), deep(deed, 29), (self.book,), self.book,
                      (deed, "look"), ("look",), (deed, self.calls), (deed,) * 41]:
            if value != ():
                for call, where in self.calls:
                    self.keeps(BadRun, value, call, where, ("hand", "eye"), value)

    def test_deeds_that_are_none(self):
        good = (1, "write", "bank")
        parts = [(person, "look", "mill") for person in (True, False, -1, 3, 8, None, "0", (0,), [0], {0: 0}, self.book)]
        parts += [(0, word, "mill") for word in ("Look", "looks", "", None, ("look",), ["look"], 0, True, self.book)]
        parts += [(0, "look", client) for client in ("rail", "", None, ("mill",), ["mill"], 0, {"mill": 1}, self.book,
                                                     deep("mill", 28))]
        parts += [(0, "look", "oil"), (0, "look", "bank"), (0, "write", "mill"), (0, "write", "bank"), (1, "look", "bank"),
                  (1, "write", "oil"), (2, "write", "bank"), (2, "look", "mill"), (0, "look"), (0, "mill"),
                  (0, "look", "mill", "mill"), ("look", 0, "mill"), (0, "mill", "look"), [0, "look", "mill"], ()]
        for deed in parts:
            for value in ((deed,), (good, deed), (deed, good)):
                for call, where in self.calls:
                    self.keeps(BadRun, value, call, where, ("hand", "pen", "eye"), value)

    def test_deeds_that_are_none_where_all_have_all_rights(self):
        book = Book(TEXT)
        parts = [(person, word, client) for person in (True, False, -1, -2, -3, 2, "0", None, (0,))
                 for word in ("look", "write") for client in book.clients]
        parts += [(person, word, client) for word in ("Look", "looks", "writes", "", None, ("write",), ["look"], True)
                  for person in (0, 1) for client in book.clients]
        for deed in parts:
            for call, where in ((stand, book), (meeting, book), (barred, plain(book)), (barred_by_facts, book)):
                for value in ((deed,), (*RUN, deed)):
                    self.keeps(BadRun, value, call, where, STAFF, value)

    def test_kinds_have_just_their_rights(self):
        staff = self.book.kinds
        for person, kind in enumerate(staff):
            lots = {"look": self.book.looks(kind), "write": self.book.writes(kind)}
            for word, client in itertools.product(("look", "write"), self.book.clients):
                value = ((person, word, client),)
                for call, where in self.calls:
                    if client in lots[word]:
                        call(where, staff, value)
                    else:
                        self.keeps(BadRun, value, call, where, staff, value)

    def test_persons_stand_in_the_staff(self):
        for many in (1, 2, 8):
            staff = ("eye",) * many
            for call, where in self.calls:
                call(where, staff, ((many - 1, "look", "oil"),))
                value = ((many, "look", "oil"),)
                self.keeps(BadRun, value, call, where, staff, value)

    def test_runs_of_forty_and_forty_one(self):
        deed = (0, "look", "mill")
        for call, where in self.calls:
            call(where, ("hand",), (deed,) * 40)
            self.refuses(BadRun, (deed,) * 41, call, where, ("hand",), (deed,) * 41)

    def test_what_is_barred_is_no_bad_run(self):
        run = ((0, "look", "oil"), (0, "look", "mill"))
        self.same(barred(bare(Book(TEXT)), ("hand",), run), 1)
        self.same(stand(Book(TEXT), ("hand",), run)[0], ((("oil", "mill"),) * 3,))
