"""Point 3: what holds over the whole program."""

import itertools
import random
import unittest

from tests.helpers import Checks, Crowd, Model, Otherwise, rights_of, some_book, some_fence, told_apart
from wallbooks.apart import apart, shows_apart
from wallbooks.books import Book
from wallbooks.choosing import cheapest
from wallbooks.errors import TooMany
from wallbooks.fences import Fence, bare, plain, walls
from wallbooks.fullest import addable, fullest, shows_fullest
from wallbooks.houses import House
from wallbooks.journals import journal, read_journal
from wallbooks.lots import needed, passed_on
from wallbooks.runs import barred, barred_by_facts, meeting, stand
from wallbooks.staffs import gathered, greatest
from wallbooks.telling import told_back

SIZES = (2, 3, 4, 5, 6, 8)


def some_fences(rng, book):
    return [plain(book), walls(book), bare(book), some_fence(rng, book, 0.3), some_fence(rng, book, 0.7)]


def wander(rng, house, steps):
    """Some people come, and do what they can."""
    for _ in range(steps):
        could = [(word, person, client) for person in range(len(house)) for word, client in house.can(person)]
        if len(house) < 8 and (not could or rng.random() < 0.3):
            house.hire(rng.choice(house.fence.book.kinds))
        elif could:
            word, person, client = rng.choice(could)
            getattr(house, word)(person, client)
    return house


def replayed(fence, steps):
    house = House(fence)
    for word, *rest in steps:
        getattr(house, word)(*rest)
    return house


class AllRunsTest(Checks):
    """(a)"""

    def test_no_run_by_a_fence_that_keeps_apart_has_a_meeting(self):
        rng = random.Random(180)
        words = set()
        for many in SIZES * 8:
            book = some_book(rng, many, rng.choice((0.2, 0.4)), rng.choice((0.5, 0.9)))
            for fence in some_fences(rng, book):
                told = apart(fence)
                words.add(told[0])
                if told[0] == "apart":
                    house = wander(rng, House(fence), 30)
                    self.same([meeting(book, house.staff, house.run) if len(house) else None, house.met()],
                              [None, None])
                else:
                    self.same([barred(fence, *told[1:]), meeting(book, *told[1:])], [None, len(told[2]) - 1])
        self.same(words, {"apart", "round"})

    def test_no_run_of_a_staff_that_is_kept_apart_has_a_meeting(self):
        rng = random.Random(181)
        kept = 0
        for many in SIZES * 12:
            book = some_book(rng, many, rng.choice((0.2, 0.4)), rng.choice((0.3, 0.5)))
            staff = tuple(rng.choice(book.kinds) for _ in range(rng.choice((2, 3))))
            if gathered(book, staff) == ("apart",):
                kept += 1
                for _ in range(5):
                    house = House(plain(book))
                    for kind in staff:
                        house.hire(kind)
                    while house.can(0) + house.can(1) and len(house.run) < 40:
                        person = rng.choice([person for person in range(len(staff)) if house.can(person)])
                        word, client = rng.choice(house.can(person))
                        getattr(house, word)(person, client)
                    self.same(house.met(), None)
        self.assertGreater(kept, 20)


class NamesTest(Checks):
    """(b), of what the tests of the modules do not hold against it."""

    def test_fences_and_full_fences(self):
        rng = random.Random(182)
        for many in (2, 3, 4, 5) * 10:
            book = some_book(rng, many, rng.choice((0.2, 0.5)), rng.choice((0.4, 0.8)))
            other = Otherwise(rng, book)
            for make in (plain, walls, bare):
                self.assertTrue(other.fence(make(book)) == make(other.book))
            for fence in some_fences(rng, book):
                newer = other.fence(fence)
                self.same(apart(newer)[0], apart(fence)[0])
                if told_apart(fence):
                    named = [(other.names[one], other.names[two]) for one, two in addable(fence)]
                    self.same(addable(newer), tuple(sorted(named)))
                    told = fullest(fence)
                    self.same(fullest(newer)[0], told[0])
                    self.assertIs(shows_fullest(newer, (told[0], *map(other.fence, told[1:]))), True)

    def test_runs(self):
        rng = random.Random(183)
        for many in SIZES * 8:
            book = some_book(rng, many, 0.3, 0.7)
            staff = tuple(rng.choice(book.kinds) for _ in range(3))
            rights = rights_of(book, staff)
            run = tuple(rng.choice(rights) for _ in range(8)) if rights else ()
            other = Otherwise(rng, book)
            newer = other.staff(staff), other.run(run)
            fence = some_fence(rng, book)
            self.same([meeting(other.book, *newer), barred_by_facts(other.book, *newer),
                       barred(other.fence(fence), *newer)],
                      [meeting(book, staff, run), barred_by_facts(book, staff, run), barred(fence, staff, run)])
            people, papers = stand(book, staff, run)
            again, borne = stand(other.book, *newer)
            self.same(again, tuple(tuple(map(other.lot, lots)) for lots in people))
            self.same({client: other.lot(lot) for client, lot in zip(map(other.names.get, book.clients), papers)},
                      {client: dict(zip(other.book.clients, borne))[client] for client in map(other.names.get,
                                                                                              book.clients)})


class WallsTest(Checks):
    """(c)"""

    def test_walls_keep_apart_in_every_book(self):
        rng = random.Random(184)
        for many in SIZES * 15:
            book = some_book(rng, many, rng.choice((0.1, 0.4, 0.8)), rng.choice((0.4, 1)))
            self.same(apart(walls(book))[0], "apart")
            self.assertTrue(walls(book).is_within(fullest(walls(book))[1]))

    def test_where_one_kind_does_all(self):
        rng = random.Random(185)
        for many in SIZES * 6:
            elder = some_book(rng, many, rng.choice((0.1, 0.4, 0.8)), 0.5, 2)
            lot = " ".join(elder.clients)
            book = Book(f"{elder.text}\nkind all\nlooks {lot}\nwrites {lot}")
            for fence in some_fences(rng, book):
                self.same(apart(fence)[0] == "apart", fence.is_within(walls(book)))
            self.same(apart(plain(book))[0] == "apart", passed_on(book)[0] == "lots")
            self.same(fullest(bare(book)), ("only", walls(book)))


class LessTest(Checks):
    """(d)"""

    def test_a_pair_or_a_right_less(self):
        rng = random.Random(186)
        for many in (3, 4, 5) * 6:
            book = some_book(rng, many, 0.3, 0.6, 2)
            staff = tuple(rng.choice(book.kinds) for _ in range(3))
            of_staff = gathered(book, staff)
            for fence in some_fences(rng, book):
                if apart(fence)[0] == "apart":
                    for pair in fence.pairs:
                        self.same(apart(fence.closed(*pair))[0], "apart")
            for kind in book.kinds:
                for word, lot in (("look", book.looks(kind)), ("write", book.writes(kind))):
                    for client in lot:
                        less = book.without_right(kind, word, client)
                        for fence in some_fences(rng, book):
                            if apart(fence)[0] == "apart":
                                self.same(apart(Fence(less, fence.pairs))[0], "apart")
                        if of_staff == ("apart",):
                            self.same(gathered(less, staff), ("apart",))
                        if apart(plain(book))[0] == "apart":
                            self.same(apart(plain(less))[0], "apart")


class ByFactsTest(Checks):
    """(e)"""

    def test_runs_by_walls_go_by_facts(self):
        rng = random.Random(187)
        for many in SIZES * 15:
            book = some_book(rng, many, rng.choice((0.2, 0.5)), rng.choice((0.5, 0.9)))
            house = wander(rng, House(walls(book)), 45)
            self.same([barred(walls(book), house.staff, house.run), barred_by_facts(book, house.staff, house.run)],
                      [None, None])

    def test_runs_by_facts_have_no_meeting(self):
        rng = random.Random(188)
        counts = {}
        for many in (2, 3, 4) * 100:
            book = some_book(rng, many, 0.3, 0.8)
            staff = tuple(rng.choice(book.kinds) for _ in range(2))
            rights = rights_of(book, staff)
            run = tuple(rng.choice(rights) for _ in range(rng.choice((3, 6)))) if rights else ()
            by_facts, met = barred_by_facts(book, staff, run), meeting(book, staff, run)
            self.assertTrue(by_facts is not None or met is None)
            self.assertTrue(met is None or by_facts <= met)
            counts[(by_facts is None, met is None)] = counts.get((by_facts is None, met is None), 0) + 1
        self.assertTrue(counts[(True, True)] > 30 and counts[(False, False)] > 30)


class FewestPeopleTest(Checks):
    """(f)"""

    def test_no_meeting_with_fewer_people(self):
        rng = random.Random(189)
        checked = 0
        while checked < 25:
            fence = some_fence(rng, some_book(rng, 3, 0.4, 0.6), 0.8)
            told = apart(fence)
            if told[0] == "round" and len(told[1]) <= 3:
                checked += 1
                for many in range(1, len(told[1])):
                    self.assertIsNone(Crowd(fence, many).fewest())

    def test_no_staff_of_fewer_people(self):
        rng = random.Random(190)
        sizes = {}
        while sum(sizes.values()) < 25:
            book = some_book(rng, rng.choice((3, 4, 5)), 0.2, rng.choice((0.2, 0.35)))
            told = apart(plain(book))
            if told[0] == "round":
                sizes[len(told[1])] = sizes.get(len(told[1]), 0) + 1
                for staff in itertools.combinations_with_replacement(book.kinds, len(told[1]) - 1):
                    try:
                        self.same(gathered(book, staff), ("apart",))
                    except TooMany:
                        self.fail("there are so few clients that this is not too many")
        self.assertGreater(len(sizes), 1)


class LiveTest(Checks):
    """(g)"""

    def lead(self, rng, house, model, depth):
        """Any calls, and blocks of them; the house is where its steps led, however it came there."""
        for _ in range(6):
            self.call(rng, house, model)
            chance = rng.random()
            if depth and chance < 0.5:
                self.block(rng, house, model, depth)
            elif chance < 0.65:
                self.assertTrue(read_journal(journal(house)) == house)
            elif chance < 0.8:
                self.call(rng, house.copy(), None)
            self.stands(house, model)
            self.assertTrue(house == replayed(house.fence, model.steps))

    def call(self, rng, house, model):
        """One step, undo or redo, or one that is refused; a model of None is not told of it."""
        book = house.fence.book
        person, client = rng.randrange(-1, len(house) + 1), rng.choice(book.clients)
        name = rng.choice(("hire", "look", "look", "write", "write", "leave", "undo", "undo", "redo"))
        args = {"hire": (rng.choice(book.kinds),), "leave": (person,), "undo": (), "redo": ()}.get(name,
                                                                                                   (person, client))
        if model is None:
            try:
                getattr(house, name)(*args)
            except ValueError:
                pass
        elif wrong := model.wrong(name, *args):
            self.refused(wrong, getattr(house, name), *args)
        else:
            self.same(getattr(house, name)(*args), model.do(name, *args))

    def block(self, rng, house, model, depth):
        """A block that is kept, not kept, or left by an error."""
        steps, undone, way = list(model.steps), list(model.undone), rng.choice(("kept", "not kept", "left"))
        try:
            with house.trial() as held:
                self.lead(rng, held, model, depth - 1)
                if way != "not kept":
                    held.keep()
                if way == "left":
                    raise KeyError
        except KeyError:
            pass
        if way != "kept":
            model.steps, model.undone = steps, undone

    def test_a_house_is_where_its_steps_led(self):
        rng = random.Random(191)
        for many in (2, 3, 4, 5) * 5:
            book = some_book(rng, many, 0.3, 0.8)
            fence = rng.choice(some_fences(rng, book))
            house, model = House(fence), Model(fence)
            for _ in range(2):
                self.same(house.hire(book.kinds[0]), model.do("hire", book.kinds[0]))
            self.lead(rng, house, model, 3)

    def test_what_is_undone_leaves_nothing(self):
        rng = random.Random(192)
        for many in SIZES * 4:
            book = some_book(rng, many, 0.3, 0.8)
            house = wander(rng, House(plain(book)), 12)
            tellings = []
            while True:
                told = (house.staff, house.run, house.done, house.met(), house.risk(),
                        [house.papers(client) for client in book.clients])
                tellings.append(told)
                if not house.done:
                    break
                house.undo()
            for told in tellings[-2::-1]:
                house.redo()
                self.same((house.staff, house.run, house.done, house.met(), house.risk(),
                           [house.papers(client) for client in book.clients]), told)


class EqualCallsTest(Checks):
    def test_over_the_whole_program(self):
        rng = random.Random(193)
        for many in SIZES * 3:
            book = some_book(rng, many, 0.3, 0.5)
            again = Book(book.text)
            staff = tuple(rng.choice(book.kinds) for _ in range(2))
            fence = some_fence(rng, book)
            twin = Fence(again, fence.pairs)
            rest = next((("stop", kind, "look", client, 1) for kind in book.kinds for client in book.looks(kind)), None)
            for call, args, others in (
                    (apart, (fence,), (twin,)), (gathered, (book, staff), (again, staff)),
                    (passed_on, (book,), (again,)),
                    (needed, (book,), (again,)), (greatest, (book, staff[0]), (again, staff[0])),
                    (walls, (book,), (again,)),
                    (told_back, (book.clients, ()), (again.clients, ())), (journal, (House(fence),), (House(twin),)),
                    (read_journal, (journal(House(fence)),), (journal(House(twin)),))):
                self.same(call(*args), call(*others))
            if rest:
                self.same(cheapest(book, (rest,)), cheapest(again, (rest,)))
            self.assertIs(shows_apart(fence, apart(twin)), True)


if __name__ == "__main__":
    unittest.main()
