"""Point 10: whether "not rivals" is passed on, and the fewest lots without rivals that have all clients."""

import copy
import itertools
import random

from tests.helpers import EIGHT, TEXT, Checks, Otherwise, deep, have_rivals, odd_values, some_book, text_of
from wallbooks import lots as module
from wallbooks.apart import apart
from wallbooks.books import Book
from wallbooks.fences import plain, walls
from wallbooks.lots import needed, passed_on, shows_needed, shows_passed_on
from wallbooks.runs import barred

THREE = ("oil", "bank", "mill")


def told_breaks(book, three):
    """Whether "not rivals" is not passed on by these three, by the words of point 10."""
    one, other, third = three
    return not book.are_rivals(one, other) and not book.are_rivals(other, third) and book.are_rivals(one, third)


def partings(clients):
    """All ways to part the clients into lots, by their first clients in sequence."""
    if not clients:
        yield ()
        return
    for parting in partings(clients[:-1]):
        for at, lot in enumerate(parting):
            yield (*parting[:at], (*lot, clients[-1]), *parting[at + 1:])
        yield (*parting, clients[-1:])


def told_partings(book):
    """All partings into as few lots without rivals as can be."""
    found = [parting for parting in partings(book.clients) if not any(have_rivals(book, lot) for lot in parting)]
    return [parting for parting in found if len(parting) == min(map(len, found))]


def all_books(many):
    """All books of so many clients, with one kind that may do nothing."""
    pairs = list(itertools.combinations(EIGHT[:many], 2))
    return [Book(text_of(EIGHT[:many], rivals)) for count in range(len(pairs) + 1)
            for rivals in itertools.combinations(pairs, count)]


def grouped_book(rng, many):
    """A book in which "not rivals" is passed on, with its lots in any sequence of clients."""
    clients = EIGHT[:many]
    group = {client: rng.randrange(3) for client in clients}
    return Book(text_of(clients, [pair for pair in itertools.combinations(clients,
                                                                          2) if group[pair[0]] != group[pair[1]]]))


def changes_of(lots):
    """Values near to a tuple of lots, none of which has the same lots in the same sequence."""
    found = [lots[:-1], lots[1:], (*lots, lots[0]), (*lots, ()), ((), *lots), list(lots), (lots,), lots + lots]
    for at, lot in enumerate(lots):
        rest = (lots[:at], lots[at + 1:])
        found += [(*rest[0], other, *rest[1]) for other in (
            lot[:-1], lot[1:], (*lot, lot[0]), (*lot, "rail x"), list(lot), lot[0], (lot,), (*lot[:-1], lot[-1:]),
            dict.fromkeys(lot))]
        found += [(*rest[0], lot[::-1], *rest[1])] if len(lot) > 1 else []
        found += [(*rest[0], lot[:1], lot[1:], *rest[1])] if len(lot) > 1 else []
        found += [(*rest[0], *rest[1], lot)] if rest[1] else []
        found += [(*rest[0], lot + other, *rest[1]) for other in lots]
    return [value for value in found if value != lots]


class LotsChecks(Checks):
    def shows(self, call, book, *values):
        for value in values:
            self.assertIs(call(book, value), True, value)

    def hides(self, call, book, *values):
        for value in values:
            self.assertIs(call(book, value), False, value)


class InterfaceTest(LotsChecks):
    def test_functions_are_defined_in_the_file(self):
        for name in ("passed_on", "shows_passed_on", "needed", "shows_needed"):
            self.assertEqual(getattr(module, name).__module__, "wallbooks.lots")

    def test_by_name(self):
        book = Book(TEXT)
        self.same([passed_on(book=book), needed(book=book)], [passed_on(book), needed(book)])
        self.assertIs(shows_passed_on(value=("three", THREE), book=book), True)
        self.assertIs(shows_needed(value=needed(book), book=book), True)

    def test_equal_calls_and_what_is_handed_in(self):
        book = Book(TEXT)
        value = [[2, [("oil", "bank"), ["mill"]]], {"a": [book]}]
        kept = copy.deepcopy(value)
        first = [passed_on(book), needed(book)]
        self.assertIs(shows_passed_on(book, value), False)
        self.assertIs(shows_needed(book, value), False)
        self.same([passed_on(Book(TEXT)), needed(Book(TEXT))], first)
        self.same(value, kept)
        self.assertEqual(book, Book(TEXT))


class PassedOnTest(LotsChecks):
    def right(self, book):
        told = passed_on(book)
        self.assertIs(shows_passed_on(book, told), True)
        broken = [three for three in itertools.product(book.clients, repeat=3) if told_breaks(book, three)]
        if broken:
            self.same((type(told), len(told), told[0], told[1] in broken), (tuple, 2, "three", True))
        else:
            self.same(told, ("lots", self.told_lots(book)))
        return told

    def told_lots(self, book):
        found = []
        for client in book.clients:
            for lot in found:
                if not book.are_rivals(client, lot[0]):
                    lot.append(client)
                    break
            else:
                found.append([client])
        return tuple(map(tuple, found))

    def test_against_all_threes(self):
        words = []
        for book in [book for many in (2, 3, 4) for book in all_books(many)]:
            told = self.right(book)
            words.append(told[0])
            for three in itertools.product(book.clients, repeat=3):
                self.assertIs(shows_passed_on(book, ("three", three)), told_breaks(book, three))
        self.assertGreater(words.count("lots"), 15)
        self.assertGreater(words.count("three"), 45)

    def test_all_lots_of_few_clients(self):
        for book in [book for many in (2, 3, 4) for book in all_books(many)]:
            told = passed_on(book)
            for parting in partings(book.clients):
                self.assertIs(shows_passed_on(book, ("lots", parting)), ("lots", parting) == told)

    def test_more_clients(self):
        rng = random.Random(100)
        for many in (5, 6, 7, 8) * 15:
            self.right(some_book(rng, many, rng.choice((0.1, 0.5, 0.9))))
            self.same(self.right(grouped_book(rng, many))[0], "lots")

    def test_no_rivals_and_all_rivals(self):
        for many in (2, 3, 8):
            clients = EIGHT[:many]
            self.same(self.right(Book(text_of(clients))), ("lots", (clients,)))
            every = Book(text_of(clients, itertools.combinations(clients, 2)))
            self.same(self.right(every), ("lots", tuple((client,) for client in clients)))

    def test_sequence_of_lots_and_clients(self):
        pairs = (("z", "y"), ("z", "b"), ("x", "y"), ("x", "b"), ("a", "y"), ("a", "b"))
        book = Book(text_of(("z", "y", "x", "b", "a"), pairs))
        self.same(self.right(book), ("lots", (("z", "x", "a"), ("y", "b"))))

    def test_just_when_plain_keeps_apart_where_one_kind_does_all(self):
        rng = random.Random(101)
        for many in (2, 3, 4, 5, 6, 8) * 10:
            elder = rng.choice((some_book(rng, many, rng.choice((0.2, 0.6))), grouped_book(rng, many)))
            book = Book(text_of(elder.clients, elder.rivals, (("all", elder.clients, elder.clients), ("no", (), ()))))
            wanted = "lots" if apart(plain(book))[0] == "apart" else "three"
            self.same(self.right(book)[0], wanted)
            self.same(plain(book) == walls(book), wanted == "lots")

    def test_other_names_and_sequences_tell_the_same(self):
        rng = random.Random(102)
        for many in (2, 3, 4, 6, 8) * 6:
            for book in (some_book(rng, many, 0.3), grouped_book(rng, many)):
                otherwise = Otherwise(rng, book)
                told, again = self.right(book), self.right(otherwise.book)
                if told[0] == "lots":
                    self.same(again, ("lots", otherwise.lots(told[1])))
                else:
                    three = tuple(otherwise.names[client] for client in told[1])
                    self.shows(shows_passed_on, otherwise.book, ("three", three), ("three", three[::-1]))

    def test_rivals_more_and_less(self):
        book = Book(TEXT)
        self.same(passed_on(book)[0], "three")
        self.same(passed_on(book.with_rivals("oil", "bank")), ("lots", (("oil",), ("bank", "mill"))))
        self.same(passed_on(book.with_rivals("mill", "bank")), ("lots", (("oil", "bank"), ("mill",))))
        self.same(passed_on(book.without_rivals("oil", "mill")), ("lots", (THREE,)))

    def test_near_to_a_three(self):
        book = Book(TEXT)
        three = ("oil", "bank", "mill")
        self.shows(shows_passed_on, book, ("three", three), ("three", three[::-1]))
        self.hides(shows_passed_on, book, ("three", ("bank", "oil", "mill")), ("three", ("oil", "mill", "bank")),
                   ("three", three[:2]), ("three", (*three, "oil")), ("three", ()), ("three", ("oil", "rail", "mill")),
                   ("three", list(three)), ["three", three], ("Three", three), ("three", *three), ("three", three, ()),
                   (three, "three"), ("three", (three,)), ("three", ("oil", ("bank",), "mill")), ("lots", three), three,
                   ("three",), (("three", three),), ("three", ("oil", "oil", "mill")),
                   ("three", ("oil", "mill", "mill")),
                   ("three", ("oil", "oil", "oil")), ("lots", (("oil", "bank"), ("mill",))), ("lots", (THREE,)),
                   ("lots", ()),
                   ("three", None), ("three", "oil bank mill"), {"three": three}, ("three", dict.fromkeys(three)))

    def test_near_to_lots(self):
        for book in (Book(TEXT).with_rivals("oil", "bank"), Book(text_of(EIGHT)), grouped_book(random.Random(7), 8)):
            told, lots = passed_on(book)
            self.shows(shows_passed_on, book, (told, lots), ("lots", tuple(map(tuple, map(list, lots)))))
            self.hides(shows_passed_on, book, *[("lots", value) for value in changes_of(lots)], ["lots", lots], lots,
                       ("lots",),
                       ("lots", lots, ()), ("three", lots), ("Lots", lots), (lots, "lots"), (("lots", lots),),
                       ("lots", *lots),
                       ("three", book.clients[:3]), ("lots", None), (len(lots), lots), ("three", ()), {"lots": lots},
                       "lots")

    def test_of_another_book(self):
        rng = random.Random(103)
        for many in (3, 4, 8) * 10:
            book, other = grouped_book(rng, many), grouped_book(rng, many)
            self.assertIs(shows_passed_on(book, passed_on(other)), passed_on(book) == passed_on(other))
        three = passed_on(Book(TEXT))
        for other in (Book(TEXT.replace("oil", "rail")), Book(TEXT).with_rivals("oil", "bank"),
                      Book(TEXT).without_rivals("oil", "mill")):
            self.hides(shows_passed_on, other, three)

    def test_odd_values(self):
        for book in (Book(TEXT), Book(TEXT).with_rivals("oil", "bank")):
            told = passed_on(book)
            for value in [*odd_values(), (), deep(told, 30), deep(told[1], 29)]:
                self.hides(shows_passed_on, book, value, ("three", value), ("lots", value), (value,), (value, told[1]),
                           (*told, value), ("three", ("oil", value, "mill")), ("three", (value, "bank", "mill")),
                           ("three", (*THREE, value)), ("lots", (value,)), ("lots", (("oil",), value)),
                           ("lots", (("oil",), ("bank", "mill"), value)), ("lots", (("oil", value), ("bank", "mill"))))


class NeededTest(LotsChecks):
    def right(self, book):
        told = needed(book)
        self.assertIs(shows_needed(book, told), True)
        wanted = told_partings(book)
        self.same((type(told), len(told), told[0], told[1] in wanted), (tuple, 2, len(wanted[0]), True))
        return told

    def test_against_all_partings(self):
        for book in [book for many in (2, 3, 4) for book in all_books(many)]:
            number, _ = self.right(book)
            wanted = told_partings(book)
            for parting in partings(book.clients):
                for many in range(6):
                    right = many == number and parting in wanted
                    self.assertIs(shows_needed(book, (many, parting)), right)

    def test_more_clients(self):
        rng = random.Random(104)
        for many in (5, 6, 7) * 10 + (8,) * 4:
            self.right(some_book(rng, many, rng.choice((0.1, 0.4, 0.7, 0.9))))

    def test_no_rivals_and_all_rivals(self):
        for many in (2, 3, 8):
            clients = EIGHT[:many]
            self.same(needed(Book(text_of(clients))), (1, (clients,)))
            every = Book(text_of(clients, itertools.combinations(clients, 2)))
            self.same(needed(every), (many, tuple((client,) for client in clients)))

    def test_rings(self):
        for many in (4, 5, 6, 7, 8):
            ring = Book(text_of(EIGHT[:many], zip(EIGHT[:many], (*EIGHT[1:many], EIGHT[0]))))
            self.same(self.right(ring)[0], 2 + many % 2)

    def test_where_each_is_put_with_the_first_that_it_can_be_with_there_are_too_many(self):
        clients = ("a", "x", "b", "y", "c", "z", "d", "w")
        pairs = [(one, other) for one, other in itertools.product("abcd",
                                                                  "xyzw") if "abcd".index(one) != "xyzw".index(other)]
        self.same(self.right(Book(text_of(clients, pairs))), (2, (tuple("abcd"), tuple("xyzw"))))

    def test_so_many_people_hold_all_clients(self):
        book = Book(text_of(THREE, (("oil", "mill"),), (("hand", THREE, THREE),)))
        number, lots = needed(book)
        run = tuple((person, "look", client) for person, lot in enumerate(lots) for client in lot)
        self.assertIsNone(barred(plain(book), ("hand",) * number, run))
        self.same(sorted(deed[2] for deed in run), sorted(book.clients))

    def test_other_names_and_sequences_tell_the_same(self):
        rng = random.Random(105)
        for many in (2, 3, 4, 6, 8) * 6:
            book = some_book(rng, many, rng.choice((0.2, 0.5, 0.8)))
            otherwise = Otherwise(rng, book)
            number, lots = needed(book)
            self.same(needed(otherwise.book)[0], number)
            self.shows(shows_needed, otherwise.book, (number, otherwise.lots(lots)))

    def test_near_to_what_is_told(self):
        rng = random.Random(106)
        books = [Book(TEXT), Book(text_of(EIGHT)), Book(text_of(EIGHT, itertools.combinations(EIGHT, 2)))]
        for book in books + [some_book(rng, 6, 0.5) for _ in range(5)]:
            number, lots = needed(book)
            right = told_partings(book)
            self.shows(shows_needed, book, *[(number, parting) for parting in right])
            for value in changes_of(lots):
                for many in (number - 1, number, number + 1):
                    self.assertIs(shows_needed(book, (many, value)), many == number and value in right, value)
            self.hides(shows_needed, book, (number + 1, lots), (number - 1, lots), (-number, lots), [number, lots],
                       lots,
                       (str(number), lots), (lots, number), (number,), (number, lots, ()), (number, *lots),
                       ((number,), lots),
                       ((number, lots),), (None, lots), (number, None), ("lots", lots), {number: lots},
                       (number, number))

    def test_true_is_not_one(self):
        free = Book(text_of(THREE))
        self.shows(shows_needed, free, (1, (THREE,)))
        self.hides(shows_needed, free, (True, (THREE,)), (1, (list(THREE),)), (1, [THREE]))

    def test_a_lot_more_than_needed(self):
        book = Book(text_of(("oil", "mill"), ()))
        self.shows(shows_needed, book, (1, (("oil", "mill"),)))
        self.hides(shows_needed, book, (2, (("oil",), ("mill",))), (1, (("oil",), ("mill",))),
                   (2, (("oil", "mill"), ())),
                   (1, (("oil",),)), (0, ()), (1, ((),)), (2, (("oil", "mill"), ("mill",))), (1, (("mill", "oil"),)))

    def test_of_another_book(self):
        book = Book(TEXT)
        self.hides(shows_needed, Book(TEXT.replace("oil", "rail")), needed(book))
        self.hides(shows_needed, book.without_rivals("oil", "mill"), needed(book))
        self.hides(shows_needed, book.with_rivals("oil", "bank").with_rivals("bank", "mill"), needed(book))
        self.hides(shows_needed, book, (1, (THREE,)), (3, tuple((client,) for client in THREE)),
                   (2, (("oil", "mill"), ("bank",))))
        self.shows(shows_needed, book, (2, (("oil", "bank"), ("mill",))), (2, (("oil",), ("bank", "mill"))))

    def test_odd_values(self):
        for book in (Book(TEXT), Book(text_of(THREE))):
            number, lots = needed(book)
            for value in [*odd_values(), (), deep((number, lots), 30), deep(lots, 29)]:
                self.hides(shows_needed, book, value, (number, value), (value,), (number, lots, value),
                           (number, (value,)),
                           (number, (*lots, value)), (number, (value, *lots)), (number, (value, *lots[1:])),
                           (number, ((*lots[0], value), *lots[1:])))
                if not (type(value) is int and value == number):
                    self.hides(shows_needed, book, (value, lots))
