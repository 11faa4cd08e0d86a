"""Point 11: the cheapest changes with which the read rule alone keeps rivals apart."""

import copy
import itertools
import random

from tests.helpers import (
    EIGHT, TEXT, Checks, Crowd, Otherwise, deep, odd_values, some_book, text_of, told_apart,
)
from wallbooks import choosing as module
from wallbooks.apart import apart, shows_apart
from wallbooks.books import Book
from wallbooks.choosing import cheapest, shows_cheapest
from wallbooks.errors import BadOffers
from wallbooks.fences import plain

THREE = ("oil", "bank", "mill")
RIVALS = ("rivals", "oil", "bank", 3)
STOP = ("stop", "hand", "write", "bank", 2)
STAFF = ("hand", "hand")
RUN = ((0, "look", "oil"), (0, "write", "bank"), (1, "look", "mill"), (1, "look", "bank"))
REASON = ((), STAFF, RUN)
# One kind brings oil's facts to the bank, another one mill's, and a third one looks there.
EITHER = text_of(THREE, (("oil", "mill"),), (("one", ("oil",), ("bank",)), ("other", ("mill",), ("bank",)),
                                            ("eye", ("bank",), ())))


def changed(book, offers, choice):
    """The text of the book, line by line, as the offers of the choice change it."""
    lines = book.text.split("\n")
    at = 1 + len(book.rivals)
    for offer in (offers[number] for number in choice):
        if offer[0] == "rivals":
            lines.insert(at, " ".join(offer[:3]))
        else:
            _, kind, word, client, _ = offer
            row = lines.index(f"kind {kind}") + (1 if word == "look" else 2)
            lines[row] = " ".join(told for told in lines[row].split(" ") if told != client)
    return Book("\n".join(lines))


def told_choices(offers):
    """All (price, how many, choice), in sequence."""
    numbers = range(len(offers))
    choices = [choice for many in range(len(offers) + 1) for choice in itertools.combinations(numbers, many)]
    return sorted((sum(offers[number][-1] for number in choice), len(choice), choice) for choice in choices)


def some_offers(rng, book, many, most=99):
    """So many unlike offers by the book as it is, fewer if there are not so many; None if there is none."""
    pairs = [pair for pair in itertools.combinations(book.clients, 2) if pair not in book.rivals]
    stops = [(kind, word, client) for kind in book.kinds for word, lot in
             (("look", book.looks(kind)), ("write", book.writes(kind))) for client in lot]
    every = [("rivals", *pair) for pair in pairs] + [("stop", *stop) for stop in stops]
    return tuple((*offer, rng.randint(1, most)) for offer in rng.sample(every, min(many, len(every)))) or None


class ChoosingChecks(Checks):
    def right(self, book, offers):
        """What cheapest tells is right by the words of point 11; shortest ways round are those that apart tells."""
        told = cheapest(book, offers)
        self.assertIs(shows_cheapest(book, offers, told), True)
        self.assertIs(type(told), tuple)
        ahead, first = [], None
        for price, _, choice in told_choices(offers):
            if told_apart(plain(changed(book, offers, choice))):
                first = (price, choice)
                break
            ahead.append(choice)
        if first is None:
            self.same((told[0], len(told)), ("none", 2))
        else:
            self.same((told[:3], len(told)), (("choice", *first), 4))
        self.same([reason[0] for reason in told[-1]], ahead)
        self.same([type(told[-1])] + [type(reason) for reason in told[-1]], [tuple] * (1 + len(ahead)))
        for choice, staff, run in told[-1]:
            after = plain(changed(book, offers, choice))
            self.way_round(after, staff, run)
            self.assertIs(shows_apart(after, ("round", staff, run)), True)
        return told

    def shows(self, book, offers, *values):
        for value in values:
            self.assertIs(shows_cheapest(book, offers, value), True, value)

    def hides(self, book, offers, *values):
        for value in values:
            self.assertIs(shows_cheapest(book, offers, value), False, value)


class InterfaceTest(ChoosingChecks):
    def test_functions_are_defined_in_the_file(self):
        for name in ("cheapest", "shows_cheapest"):
            self.assertEqual(getattr(module, name).__module__, "wallbooks.choosing")

    def test_by_name(self):
        book, offers = Book(TEXT), (RIVALS, STOP)
        told = cheapest(offers=offers, book=book)
        self.same(told, cheapest(book, offers))
        self.assertIs(shows_cheapest(value=told, offers=offers, book=book), True)

    def test_equal_calls_and_what_is_handed_in(self):
        book, offers = Book(TEXT), (RIVALS, STOP)
        told = cheapest(book, offers)
        value = ["choice", 2, [1], [[[], list(STAFF), [book]]]]
        kept = copy.deepcopy(value)
        self.assertIs(shows_cheapest(book, offers, value), False)
        self.same(value, kept)
        self.same(cheapest(Book(TEXT), (RIVALS, STOP)), told)
        self.assertEqual(book, Book(TEXT))


class CheapestTest(ChoosingChecks):
    def test_the_book_of_the_document(self):
        book = Book(TEXT)
        told = self.right(book, (RIVALS, STOP))
        self.same((told[:3], len(told[3]), told[3][0][0]), (("choice", 2, (1,)), 1, ()))
        told = self.right(book, (RIVALS,))
        self.same((told[:3], len(told[3])), (("choice", 3, (0,)), 1))
        told = self.right(book, (("stop", "hand", "look", "oil", 99),))
        self.same(told[:3], ("choice", 99, (0,)))

    def test_against_all_choices(self):
        rng = random.Random(110)
        words, sizes = [], []
        while len(words) < 200:
            book = some_book(rng, rng.choice((3, 3, 4, 5)), rng.choice((0.2, 0.4)), rng.choice((0.4, 0.7, 1)))
            offers = some_offers(rng, book, rng.choice((1, 2, 3, 4)), rng.choice((1, 2, 5, 99)))
            if offers and (not told_apart(plain(book)) or rng.random() < 0.1):
                told = self.right(book, offers)
                words.append(told[0])
                sizes.append(len(told[2]) if told[0] == "choice" else None)
        for word in words[0], None:
            self.assertGreater((words + sizes).count(word), 20)
        for size in (0, 1, 2, 3):
            self.assertGreater(sizes.count(size), 0)

    def test_more_clients(self):
        rng = random.Random(111)
        for many in (6, 8) * 10:
            book = some_book(rng, many, 0.2, rng.choice((0.3, 0.6)))
            self.right(book, some_offers(rng, book, 4))

    def test_nothing_needs_to_change(self):
        for book in (Book(TEXT).without_rivals("oil", "mill"), Book(TEXT).with_rivals("bank", "mill")):
            for offers in ((STOP,), (RIVALS, STOP), (("stop", "hand", "look", "oil", 1), STOP, RIVALS)):
                self.same(self.right(book, offers), ("choice", 0, (), ()))

    def test_none_serves(self):
        book = Book(TEXT)
        offers = (("stop", "hand", "write", "oil", 1), ("stop", "hand", "write", "mill", 1))
        told = self.right(book, offers)
        self.same([told[0], [reason[0] for reason in told[1]]], ["none", [(), (0,), (1,), (0, 1)]])
        told = self.right(Book(text_of(EIGHT, (EIGHT[:2],), (("hand", EIGHT, EIGHT),))),
                          tuple(("stop", "hand", "look", client, 1) for client in EIGHT[2:6]))
        self.same([told[0], len(told[1])], ["none", 16])

    def test_only_both_serve(self):
        book = Book(EITHER.replace("kind eye\nlooks bank", "kind eye\nlooks oil bank"))
        book = book.with_right("eye", "look", "mill")
        offers = (("stop", "one", "write", "bank", 1), ("stop", "other", "look", "mill", 1))
        told = self.right(book, offers)
        self.same([told[:3], [reason[0] for reason in told[3]]], [("choice", 2, (0, 1)), [(), (0,), (1,)]])

    def test_of_one_price_the_one_with_fewer_offers(self):
        book = Book(EITHER).with_right("eye", "look", "oil").with_right("eye", "look", "mill")
        offers = (("stop", "one", "write", "bank", 1), ("stop", "other", "look", "mill", 2),
                  ("stop", "eye", "look", "bank", 3))
        told = self.right(book, offers)
        self.same([told[:3], [reason[0] for reason in told[3]]], [("choice", 3, (2,)), [(), (0,), (1,)]])
        offers = (*offers[:2], (*offers[2][:-1], 4))
        told = self.right(book, offers)
        self.same([told[:3], [reason[0] for reason in told[3]]], [("choice", 3, (0, 1)), [(), (0,), (1,)]])

    def test_of_one_price_and_so_many_offers_as_tuples_of_numbers(self):
        book = Book(EITHER)
        stops = (("stop", "one", "look", "oil", 5), ("stop", "other", "write", "bank", 5),
                 ("stop", "eye", "look", "bank", 5))
        for offers in itertools.permutations(stops):
            told = self.right(book, offers)
            self.same([told[:3], [reason[0] for reason in told[3]]], [("choice", 5, (0,)), [()]])
        # No pair of the book goes by the first offer's right: mill and oil are rivals.
        offers = (("stop", "other", "write", "oil", 5), *stops[:2])
        for right in (("eye", "look", "oil"), ("eye", "look", "mill"), ("other", "write", "oil")):
            book = book.with_right(*right)
        told = self.right(book, offers)
        self.same([told[:3], [reason[0] for reason in told[3]]], [("choice", 10, (1, 2)),
                                                                  [(), (0,), (1,), (2,), (0, 1), (0, 2)]])

    def test_prices(self):
        book = Book(EITHER)
        stops = (("stop", "one", "look", "oil"), ("stop", "other", "write", "bank"), ("stop", "eye", "look", "bank"))
        for prices in itertools.product((1, 50, 99), repeat=3):
            told = self.right(book, tuple((*stop, price) for stop, price in zip(stops, prices)))
            self.same(told[:3], ("choice", min(prices), (prices.index(min(prices)),)))
        told = self.right(Book(TEXT), tuple(("stop", "hand", "write", client, 99) for client in ("mill", "oil",
                                                                                                 "bank")))
        self.same(told[:3], ("choice", 99, (2,)))

    def test_an_offer_can_let_more_come_together_in_no_other_way(self):
        # Rivals more: what the read rule bars then, but also two more who must not come together.
        clients = ("a", "b", "c", "d")
        book = Book(text_of(clients, (("a", "b"), ("c", "d")), (("hand", clients, clients),)))
        told = self.right(book, (("rivals", "a", "c", 1), ("rivals", "b", "d", 1), ("rivals", "a", "d", 5),
                                 ("rivals", "b", "c", 5)))
        self.same(told[:3], ("choice", 2, (0, 1)))

    def test_reasons_hold_against_all_runs(self):
        book = Book(EITHER)
        offers = (("stop", "one", "write", "bank", 9), ("rivals", "oil", "bank", 1))
        told = self.right(book, offers)
        for choice, staff, run in told[-1]:
            self.same(Crowd(plain(changed(book, offers, choice)), len(staff)).fewest(len(run)), len(run))
        self.same(Crowd(plain(changed(book, offers, told[2])), 3).fewest(), None)

    def test_other_names_and_sequences_tell_the_same(self):
        rng = random.Random(112)
        for many in (3, 4, 5, 8) * 10:
            book = some_book(rng, many, rng.choice((0.2, 0.4)), rng.choice((0.5, 0.8)))
            offers = some_offers(rng, book, 4)
            otherwise = Otherwise(rng, book)
            named = tuple(("rivals", *otherwise.lot(offer[1:3]), offer[3]) if offer[0] == "rivals" else
                          ("stop", otherwise.kinds[offer[1]], offer[2], otherwise.names[offer[3]],
                           offer[4]) for offer in offers)
            told, again = self.right(book, offers), self.right(otherwise.book, named)
            self.same(told[:-1], again[:-1])
            reasons = tuple((choice, otherwise.staff(staff), otherwise.run(run)) for choice, staff, run in told[-1])
            self.shows(otherwise.book, named, (*told[:-1], reasons))

    def test_the_book_with_a_choice_that_serves_keeps_apart(self):
        rng = random.Random(113)
        for many in (3, 4, 6) * 10:
            book = some_book(rng, many, 0.3, 0.8)
            offers = some_offers(rng, book, 4, 5)
            told = cheapest(book, offers)
            if told[0] == "choice":
                self.same(apart(plain(changed(book, offers, told[2])))[0], "apart")


class OffersTest(ChoosingChecks):
    def bad(self, book, *values):
        for value in values:
            self.keeps(BadOffers, value, cheapest, book, value)
            self.keeps(BadOffers, value, shows_cheapest, book, value, ("choice", 0, (), ()))

    def bad_offers(self, book, *offers):
        for offer in offers:
            self.bad(book, (offer,), (offer, STOP), (STOP, offer), (STOP, RIVALS, offer))

    def test_how_many(self):
        book = Book(TEXT)
        stops = tuple(("stop", "hand", word, client, 1) for word in ("look", "write") for client in THREE)
        for many in range(1, 5):
            self.right(book, stops[:many])
        self.bad(book, (), stops[:5], stops)

    def test_alike_but_for_the_price(self):
        book = Book(TEXT)
        self.bad(book, (STOP, STOP), (STOP, (*STOP[:-1], 3)), (RIVALS, STOP, (*RIVALS[:-1], 99)),
                 (STOP, RIVALS, (*STOP[:-1], 1)), (RIVALS, RIVALS))
        self.right(book, (STOP, ("stop", "hand", "look", "bank", 2), ("stop", "hand", "write", "oil", 2), RIVALS))

    def test_prices(self):
        book = Book(TEXT)
        for price in (1, 2, 98, 99):
            self.right(book, ((*RIVALS[:-1], price), ("stop", "hand", "look", "oil", price)))
        for price in (0, 100, -1, True, False, None, "1", (1,), [1], 999999999, "", {1: 1}, -99, book):
            self.bad_offers(book, (*RIVALS[:-1], price), ("stop", "hand", "look", "oil", price))

    def test_pairs(self):
        book = Book(TEXT)
        for pair in (("oil", "bank"), ("bank", "mill")):
            self.right(book, (("rivals", *pair, 1),))
        for pair in (("bank", "oil"), ("mill", "bank"), ("oil", "mill"), ("mill", "oil"), ("oil", "oil"),
                     ("bank", "bank"),
                     ("oil", "rail"), ("rail", "bank"), ("oil", None), (True, "bank"), (("oil", "bank"), "mill")):
            self.bad_offers(book, ("rivals", *pair, 1))

    def test_rights(self):
        book = Book(text_of(THREE, (("oil", "mill"),), (("hand", THREE, THREE), ("one", ("oil",), ("bank",)))))
        for stop in (("one", "look", "oil"), ("one", "write", "bank"), ("hand", "look", "mill")):
            self.right(book, (("stop", *stop, 1),))
        for stop in (("one", "look", "bank"), ("one", "write", "oil"), ("no", "look", "oil"), ("one", "Look", "oil"),
                     ("one", "looks", "oil"), ("one", "", "oil"), ("one", "look", "rail"), ("oil", "look", "oil"),
                     ("look", "one", "oil"), ("one", None, "oil"), ("one", "look", None), (("one",), "look", "oil"),
                     ("one", "look", ("oil",)), ("one", "stop", "oil"), (True, "look", "oil")):
            self.bad_offers(book, ("stop", *stop, 1))

    def test_forms(self):
        book = Book(TEXT)
        self.bad_offers(book, list(RIVALS), list(STOP), RIVALS[:-1], STOP[:-1], (*RIVALS, 1), (*STOP, 1), (RIVALS,), (),
                        ("Rivals", *RIVALS[1:]), ("stop", *RIVALS[1:]), ("rivals", *STOP[1:]), ("rival", *RIVALS[1:]),
                        RIVALS[1:], STOP[1:], (3, "rivals", "oil", "bank"), ("rivals", ("oil", "bank"), 3),
                        "rivals oil bank 3",
                        ("rivals", "oil", "bank", 3, 3), (None, *RIVALS[1:]), ("stop", ("hand", "write", "bank"), 2),
                        dict.fromkeys(RIVALS), ("stop", "hand", "write", "bank"), ("rivals", "oil", 3), ("rivals",),
                        (3,))
        self.bad(book, RIVALS, STOP, [RIVALS, STOP], [STOP], {"a": STOP}, "stop", ((STOP,),), (STOP, (RIVALS,)),
                 {STOP: 1})

    def test_odd_values(self):
        book = Book(TEXT)
        for value in odd_values():
            self.bad(book, value, [value])
            self.bad_offers(book, value, (value, *RIVALS[1:]), (*RIVALS[:1], value, *RIVALS[2:]), (*RIVALS, value),
                            (value, *STOP[1:]), ("stop", value, "write", "bank", 2), ("stop", "hand", value, "bank", 2),
                            ("stop", "hand", "write", value, 2), (*STOP, value))
            if not (type(value) is int and value == 1):
                self.bad_offers(book, (*RIVALS[:-1], value), ("stop", "hand", "look", "oil", value))

    def test_they_come_ahead_of_the_value(self):
        for value in (None, cheapest(Book(TEXT), (STOP,)), ("choice", 1, (True,), ())):
            self.refuses(BadOffers, (), shows_cheapest, Book(TEXT), (), value)


class ShowsTest(ChoosingChecks):
    def setUp(self):
        self.book = Book(TEXT)
        self.offers = (RIVALS, STOP)

    def test_any_way_round(self):
        mirrored = ((0, "look", "mill"), (0, "write", "bank"), (1, "look", "oil"), (1, "look", "bank"))
        for run in (RUN, mirrored, tuple((1 - person, word, client) for person, word, client in RUN)):
            self.shows(self.book, self.offers, ("choice", 2, (1,), (((), STAFF, run),)))

    def test_near_to_a_choice(self):
        told = ("choice", 2, (1,), (REASON,))
        self.shows(self.book, self.offers, told)
        longer = ((0, "look", "bank"), *RUN)
        self.hides(self.book, self.offers, ("choice", 3, (1,), (REASON,)), ("choice", 3, (0,), (REASON,)),
                   ("choice", 3, (0,), (REASON, REASON)), ("choice", 0, (), ()), ("choice", 2, (1,), ()),
                   ("choice", 2, (True,), (REASON,)),
                   ("choice", 2, (1,), (REASON, REASON)), ("choice", 2, [1], (REASON,)), ("choice", 2, (1,), [REASON]),
                   ("choice", 2, (1,), (list(REASON),)), ("choice", 2, (1,), REASON), ("choice", 2, 1, (REASON,)),
                   ("choice", "2", (1,), (REASON,)), ("choice", 2, (0, 1), (REASON,)), ("choice", 5, (0, 1), (REASON,)),
                   ("Choice", 2, (1,), (REASON,)), list(told), told[:3], (*told, ()), ("none", (REASON,)), (told,),
                   ("none", 2, (1,), (REASON,)), ("choice", (REASON,)), ("choice", 2, (1, 1), (REASON,)),
                   ("choice", 2, (), (REASON,)), ("choice", 2, ("1",), (REASON,)), ("choice", 2, (1,), ((STAFF, RUN),)),
                   ("choice", 2, (1,), (((), STAFF, longer),)), ("choice", 2, (1,), (((), STAFF, RUN[:-1]),)),
                   ("choice", 2, (1,), (((), STAFF, RUN, ()),)), ("choice", 2, (1,), (((1,), STAFF, RUN),)),
                   ("choice", 2, (1,), (([], STAFF, RUN),)), ("choice", 2, (1,), (((), ("hand",) * 3, RUN),)),
                   ("choice", 2, (1,), (((), list(STAFF), RUN),)), ("choice", 2, (1,), (((), STAFF, list(RUN)),)),
                   ("choice", 2, (1,), (((), RUN, STAFF),)), ("choice", 2, (1,), (("round", STAFF, RUN),)),
                   ("choice", 2, (1,), (((), STAFF),)), ("choice", 2, (1,), (((), STAFF, ()),)),
                   ("choice", 1, (1,), (REASON,)),
                   (2, (1,), (REASON,)), {"choice": 2}, ("choice", 2, (1,), None), ("choice", (1,), 2, (REASON,)))

    def test_true_is_not_one(self):
        offers = (("stop", "hand", "look", "oil", 2), ("stop", "hand", "write", "bank", 1))
        self.shows(self.book, offers, ("choice", 1, (1,), (REASON,)))
        self.hides(self.book, offers, ("choice", True, (1,), (REASON,)), ("choice", 1, (True,), (REASON,)))
        book = Book(TEXT).without_rivals("oil", "mill")
        self.shows(book, self.offers, ("choice", 0, (), ()))
        self.hides(book, self.offers, ("choice", False, (), ()), ("choice", 0, (), (REASON,)), ("choice", 0, [], ()),
                   ("choice", 0, (), []), ("choice", 0, None, ()), ("choice", 0, (), None), ("none", ()))

    def test_numbers_in_reasons(self):
        offers = (("stop", "hand", "write", "oil", 1), ("stop", "hand", "write", "mill", 1))
        reasons = tuple((choice, STAFF, RUN) for choice in ((), (0,), (1,), (0, 1)))
        self.shows(self.book, offers, ("none", reasons))
        for at, choice in ((1, (False,)), (2, (True,)), (3, (False, 1)), (3, (0, True)), (3, (1, 0)), (1, (1,)),
                           (1, [0]), (0, (0,))):
            self.hides(self.book, offers, ("none", (*reasons[:at], (choice, STAFF, RUN), *reasons[at + 1:])))

    def test_reasons_out_twice_and_exchanged(self):
        offers = (("stop", "hand", "write", "oil", 1), ("stop", "hand", "write", "mill", 2),
                  ("stop", "hand", "look", "oil", 50))
        told = self.right(self.book, offers)
        self.same([told[:3], len(told[3])], [("choice", 50, (2,)), 4])
        reasons = told[3]
        for at, reason in enumerate(reasons):
            self.hides(self.book, offers, (*told[:3], reasons[:at] + reasons[at + 1:]),
                       (*told[:3], reasons[:at + 1] + reasons[at:]),
                       (*told[:3], reasons[:at] + reasons[at:at + 1] * 2 + reasons[at + 2:]),
                       (*told[:3], (*reasons[:at], reason[1:], *reasons[at + 1:])))
        for one, other in itertools.combinations(range(4), 2):
            changed_places = list(reasons)
            changed_places[one], changed_places[other] = reasons[other], reasons[one]
            self.hides(self.book, offers, (*told[:3], tuple(changed_places)))
        self.hides(self.book, offers, (*told[:3], (*reasons, ((2,), STAFF, RUN))), (*told[:3], ()),
                   (*told[:3], reasons[::-1]))

    def test_none_and_a_choice(self):
        none = ("none", tuple((choice, STAFF, RUN) for choice in ((), (0,))))
        offers = (("stop", "hand", "write", "oil", 1),)
        self.shows(self.book, offers, none)
        self.hides(self.book, offers, ("none", none[1][:1]), ("none", ()), ("none",), ("none", none[1], ()), list(none),
                   ("none", none[1][::-1]), ("choice", 1, (0,), none[1][:1]), ("choice", none[1]),
                   ("none", none[1] * 2),
                   ("None", none[1]), none[1], ("choice", 0, (), ()), (None, none[1]), ("none", 1, (0,), none[1]))

    def test_a_longer_way_round_another_staff_and_another_choice_s_way(self):
        book = Book(EITHER).with_right("eye", "look", "oil").with_right("eye", "look", "mill")
        offers = (("stop", "one", "write", "bank", 1), ("stop", "other", "look", "mill", 1))
        told = self.right(book, offers)
        self.same([told[:3], len(told[3])], [("choice", 2, (0, 1)), 3])
        ways = [reason[1:] for reason in told[3]]
        one = (("one", "eye"), ((0, "look", "oil"), (0, "write", "bank"), (1, "look", "bank"), (1, "look", "mill")))
        other = (("other", "eye"), ((0, "look", "mill"), (0, "write", "bank"), (1, "look", "oil"), (1, "look", "bank")))
        for three in itertools.product((one, other, *ways), repeat=3):
            value = ("choice", 2, (0, 1), tuple((choice, *way) for choice, way in zip(((), (0,), (1,)), three)))
            wanted = "other" in three[1][0] and "one" in three[2][0]
            self.assertIs(shows_cheapest(book, offers, value), wanted)
        longer = (("other", "eye"), (*other[1][:2], (0, "look", "mill"), *other[1][2:]))
        three = (("one", "other", "eye"), ((0, "look", "oil"), (0, "write", "bank"), (1, "look", "mill"),
                                           (1, "write", "bank"),
                                          (2, "look", "bank")))
        for way in (longer, three):
            self.hides(book, offers, ("choice", 2, (0, 1), (((), *way), *told[3][1:])))

    def test_of_other_offers_and_books(self):
        told = cheapest(self.book, self.offers)
        self.hides(self.book, self.offers[::-1], told)
        self.hides(self.book, (RIVALS, (*STOP[:-1], 1)), told)
        self.hides(self.book, (STOP,), told)
        self.shows(self.book, (("stop", "hand", "look", "oil", 3), STOP), told)
        self.hides(self.book.without_rivals("oil", "mill"), self.offers, told)
        self.hides(Book(TEXT.replace("hand", "pen")), (("rivals", "oil", "bank", 3),
                                                       ("stop", "pen", "write", "bank", 2)), told)
        self.hides(Book(TEXT.replace("mill", "rail")), self.offers, told)

    def test_odd_values(self):
        told = ("choice", 2, (1,), (REASON,))
        for value in [*odd_values(), (), deep(told, 30), deep(REASON, 29)]:
            self.hides(self.book, self.offers, value, (value,), (*told, value), (value, *told[1:]), ("none", value),
                       ("choice", value, (1,), (REASON,)), ("choice", 2, value, (REASON,)),
                       ("choice", 2, (value, 2), (REASON,)),
                       ("choice", 2, (1, value), (REASON,)), ("choice", 2, (1,), value), ("choice", 2, (1,), (value,)),
                       ("choice", 2, (1,), (REASON, value)), ("choice", 2, (1,), (((), value, RUN),)),
                       ("choice", 2, (1,), (((), STAFF, value),)), ("choice", 2, (1,), (((), STAFF, RUN, value),)),
                       ("choice", 2, (1,), (((value,), STAFF, RUN),)), ("choice", 2, (1,),
                                                                        (((), STAFF, (*RUN, value)),)))
            if value != ():
                self.hides(self.book, self.offers, ("choice", 2, (1,), ((value, STAFF, RUN),)))
