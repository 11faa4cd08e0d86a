"""Point 12: rivals told back from who was let and who was barred."""

import copy
import itertools
import random

from tests.helpers import EIGHT, TEXT, Checks, deep, odd_values
from wallbooks import telling as module
from wallbooks.books import Book
from wallbooks.errors import BadCases, BadClients, BadRivalry, NoneFits
from wallbooks.fences import plain
from wallbooks.houses import House
from wallbooks.runs import barred
from wallbooks.telling import fits, told_back

THREE = ("oil", "bank", "mill")
CASES = ((("oil",), "bank", "let"), (("oil", "bank"), "mill", "barred"))


def told_pairs(clients):
    return tuple(itertools.combinations(clients, 2))


def told_fits(cases, rivalry):
    """Whether a rivalry fits, by the words of point 12."""
    rivals = {frozenset(pair) for pair in rivalry}
    for lot, client, word in cases:
        if any(frozenset(two) in rivals for two in itertools.combinations(lot, 2)):
            return False
        if any(frozenset((held, client)) in rivals for held in lot) != (word == "barred"):
            return False
    return True


def all_rivalries(clients):
    """All rivalries: ascending tuples of pairs."""
    pairs = sorted(told_pairs(clients))
    return [some for many in range(len(pairs) + 1) for some in itertools.combinations(pairs, many)]


def some_case(rng, clients, rivalry=None):
    """A case of the clients; with a rivalry one that it fits, None if the lot has rivals in it."""
    lot = tuple(client for client in clients if rng.random() < rng.choice((0.2, 0.6)))
    client, word = rng.choice(clients), rng.choice(("let", "barred"))
    if rivalry is None:
        return lot, client, word
    found = [(lot, client, word) for word in ("let", "barred") if told_fits([(lot, client, word)], rivalry)]
    return found[0] if found else None


class InterfaceTest(Checks):
    def test_functions_are_defined_in_the_file(self):
        for name in ("told_back", "fits"):
            self.assertEqual(getattr(module, name).__module__, "wallbooks.telling")

    def test_by_name(self):
        self.same(told_back(cases=CASES, clients=THREE), told_back(THREE, CASES))
        self.assertIs(fits(rivalry=(("bank", "mill"),), cases=CASES, clients=THREE), True)

    def test_equal_calls_and_what_is_handed_in(self):
        clients, cases = THREE, copy.deepcopy(CASES)
        first = told_back(clients, cases)
        self.same([told_back(THREE, CASES), clients, cases], [first, THREE, CASES])
        wrong = [["oil"], {"a": ["bank"]}]
        kept = copy.deepcopy(wrong)
        for call in (lambda: told_back(wrong, CASES), lambda: told_back(THREE, wrong),
                     lambda: fits(THREE, CASES, wrong)):
            self.assertRaises(ValueError, call)
        self.same(wrong, kept)


class ToldBackTest(Checks):
    def right(self, clients, cases):
        """Against a going through all rivalries."""
        found = [rivalry for rivalry in all_rivalries(clients) if told_fits(cases, rivalry)]
        if not found:
            number = next(at for at in range(len(cases))
                          if not any(told_fits(cases[:at + 1], rivalry) for rivalry in all_rivalries(clients)))
            self.refuses(NoneFits, number, told_back, clients, cases)
            return None
        pairs = sorted(told_pairs(clients))
        often = [sum(pair in rivalry for rivalry in found) for pair in pairs]
        told = told_back(clients, cases)
        self.same(told, (tuple(pair for pair, many in zip(pairs, often) if many == len(found)),
                         tuple(pair for pair, many in zip(pairs, often) if 0 < many < len(found)),
                         tuple(pair for pair, many in zip(pairs, often) if many == 0)))
        return told

    def test_all_cases_of_two_and_three_clients_one_or_two_of_them(self):
        for clients, most in ((("b", "a"), 3), (THREE, 1)):
            lots = [lot for many in range(len(clients) + 1) for lot in itertools.combinations(clients, many)]
            cases = list(itertools.product(lots, clients, ("let", "barred")))
            for many in range(most + 1):
                for some in itertools.product(cases, repeat=many):
                    self.right(clients, some)
        lots = [("oil",), ("oil", "bank"), ("bank", "mill"), ("mill",)]
        for some in itertools.product(itertools.product(lots, THREE, ("let", "barred")), repeat=2):
            self.right(THREE, some)

    def test_cases_of_a_rivalry(self):
        rng = random.Random(120)
        always = 0
        for many in (3, 4, 4, 5) * 12:
            clients = tuple(rng.sample(EIGHT, many))
            rivalry = [pair for pair in told_pairs(clients) if rng.random() < 0.4]
            cases = [some_case(rng, clients, rivalry) for _ in range(rng.choice((3, 8, 24)))]
            told = self.right(clients, tuple(case for case in cases if case))
            always += len(told[0])
            self.assertTrue(set(told[0]) <= set(rivalry) and not set(told[2]) & set(rivalry))
        self.assertGreater(always, 20)

    def test_any_cases(self):
        rng = random.Random(121)
        none = 0
        for many in (2, 3, 4, 4) * 25:
            clients = tuple(rng.sample(EIGHT, many))
            cases = tuple(some_case(rng, clients) for _ in range(rng.choice((1, 2, 4, 6))))
            none += self.right(clients, cases) is None
        self.assertGreater(none, 30)

    def test_no_cases(self):
        self.same(told_back(THREE, ()), ((), (("bank", "mill"), ("oil", "bank"), ("oil", "mill")), ()))
        self.same(told_back(("b", "a"), ()), ((), (("b", "a"),), ()))
        self.same(told_back(EIGHT, ()), ((), tuple(sorted(told_pairs(EIGHT))), ()))

    def test_somebody_who_held_nothing(self):
        self.same(told_back(THREE, (((), "oil", "let"),)), told_back(THREE, ()))
        self.refuses(NoneFits, 0, told_back, THREE, (((), "oil", "barred"),))
        self.refuses(NoneFits, 1, told_back, THREE, (((), "oil", "let"), ((), "bank", "barred"), ((), "oil", "barred")))

    def test_a_client_that_is_in_the_lot_itself(self):
        self.same(told_back(THREE, ((("oil",), "oil", "let"),)), told_back(THREE, ()))
        self.refuses(NoneFits, 0, told_back, THREE, ((("oil",), "oil", "barred"),))
        self.same(told_back(THREE, ((("oil", "bank"), "oil", "let"),)),
                  ((), (("bank", "mill"), ("oil", "mill")), (("oil", "bank"),)))
        self.refuses(NoneFits, 0, told_back, THREE, ((("oil", "bank"), "oil", "barred"),))
        self.refuses(NoneFits, 0, told_back, THREE, ((("oil", "bank", "mill"), "bank", "barred"),))

    def test_eight_clients(self):
        rest = tuple(sorted(pair for pair in told_pairs(EIGHT) if EIGHT[0] not in pair))
        cases = [(EIGHT[1:], EIGHT[0], "barred")]
        ones = tuple(sorted((EIGHT[0], other) for other in EIGHT[1:]))
        self.same(told_back(EIGHT, tuple(cases)), ((), ones, rest))
        cases += [((other,), EIGHT[0], "let") for other in EIGHT[2:]]
        never = tuple(sorted(pair for pair in told_pairs(EIGHT) if pair != EIGHT[:2]))
        self.same(told_back(EIGHT, tuple(cases)), ((EIGHT[:2],), (), never))
        self.refuses(NoneFits, 7, told_back, EIGHT, (*cases, ((EIGHT[1],), EIGHT[0], "let")))
        self.refuses(NoneFits, 7, told_back, EIGHT, (*cases, (EIGHT[:2], EIGHT[3], "let"), ((), "a", "barred")))

    def test_the_first_case_that_none_fits(self):
        let, not_let = (("oil",), "bank", "let"), (("oil",), "bank", "barred")
        self.refuses(NoneFits, 1, told_back, THREE, (let, not_let))
        self.refuses(NoneFits, 1, told_back, THREE, (not_let, let))
        self.refuses(NoneFits, 3, told_back, THREE, (let, let, let, not_let, not_let))
        self.refuses(NoneFits, 2, told_back, THREE, ((("oil", "bank"), "mill", "barred"), (("mill",), "oil", "let"),
                                                    (("bank",), "mill", "let")))
        self.refuses(NoneFits, 2, told_back, THREE, (let, (("bank",), "mill", "barred"),
                                                     (("bank", "mill"), "oil", "let"), not_let))

    def test_pairs_stand_in_sequence_and_ascend(self):
        clients = ("z", "m", "a")
        self.same(told_back(clients, ((("a",), "z", "barred"), (("m",), "z", "barred"), (("a",), "m", "let"))),
                  ((("z", "a"), ("z", "m")), (), (("m", "a"),)))
        self.same(told_back(("a", "m", "z"), ((("a",), "z", "barred"), (("m",), "z", "barred"), (("m",), "a", "let"))),
                  ((("a", "z"), ("m", "z")), (), (("a", "m"),)))

    def test_what_the_read_rule_of_a_book_tells(self):
        book = Book(TEXT)
        cases = []
        for held in THREE:
            for client in THREE:
                run = ((0, "look", held), (0, "look", client))
                cases.append(((held,), client, "let" if barred(plain(book), ("hand",), run) is None else "barred"))
        self.same(told_back(THREE, tuple(cases)), (book.rivals, (), (("bank", "mill"), ("oil", "bank"))))

    def test_what_houses_tell(self):
        rng = random.Random(122)
        for _ in range(20):
            house = House(plain(Book(TEXT)))
            house.hire("hand")
            cases = []
            for _ in range(8):
                lot, client = house.holds(0), rng.choice(THREE)
                could = ("look", client) in house.can(0)
                cases.append((lot, client, "let" if could else "barred"))
                if could:
                    house.look(0, client)
            always, unsure, never = told_back(THREE, tuple(cases))
            self.assertTrue(set(always) <= {("oil", "mill")} <= {*always, *unsure})
            self.assertIs(fits(THREE, tuple(cases), (("oil", "mill"),)), True)

    def test_other_names_and_sequences_tell_the_same(self):
        rng = random.Random(123)
        for many in (2, 3, 4, 6, 8) * 10:
            clients = tuple(rng.sample(EIGHT, many))
            rivalry = [pair for pair in told_pairs(clients) if rng.random() < 0.4]
            cases = [case for case in (some_case(rng, clients, rivalry) for _ in range(12)) if case]
            names = dict(zip(clients, rng.sample("abcdefgh", many)))
            others = tuple(rng.sample(sorted(names.values()), many))

            def named(lot):
                return tuple(client for client in others if client in {names[one] for one in lot})

            newer = tuple((named(lot), names[client], word) for lot, client, word in rng.sample(cases, len(cases)))
            wanted = tuple(tuple(sorted(named(pair) for pair in part)) for part in told_back(clients, tuple(cases)))
            self.same(told_back(others, newer), wanted)
            self.assertIs(fits(others, newer, tuple(sorted(named(pair) for pair in rivalry))), True)


class FitsTest(Checks):
    def test_against_the_words(self):
        rng = random.Random(124)
        fitting = 0
        for many in (2, 3, 4) * 20:
            clients = tuple(rng.sample(EIGHT, many))
            cases = tuple(some_case(rng, clients) for _ in range(rng.choice((0, 1, 2, 3))))
            for rivalry in all_rivalries(clients):
                self.assertIs(fits(clients, cases, rivalry), told_fits(cases, rivalry))
                fitting += told_fits(cases, rivalry)
        self.assertGreater(fitting, 100)

    def test_what_is_told_back_fits(self):
        rng = random.Random(125)
        for many in (5, 6, 8) * 15:
            clients = tuple(rng.sample(EIGHT, many))
            rivalry = tuple(sorted(pair for pair in told_pairs(clients) if rng.random() < 0.4))
            cases = tuple(case for case in (some_case(rng, clients, rivalry) for _ in range(20)) if case)
            always, unsure, never = told_back(clients, cases)
            self.same(sorted(always + unsure + never), sorted(told_pairs(clients)))
            self.assertIs(fits(clients, cases, rivalry), True)
            self.assertIs(fits(clients, cases, tuple(sorted(always + unsure))), True)
            for pair in always:
                self.assertIs(fits(clients, cases, tuple(sorted({*always, *unsure} - {pair}))), False)
            for pair in unsure:
                self.assertIs(fits(clients, cases, tuple(sorted({*always, *unsure} - {pair}))), True)
            for pair in never:
                self.assertIs(fits(clients, cases, tuple(sorted((*always, *unsure, pair)))), False)

    def test_no_cases_and_none_that_fits(self):
        for rivalry in all_rivalries(THREE):
            self.assertIs(fits(THREE, (), rivalry), True)
            self.assertIs(fits(THREE, (((), "oil", "barred"),), rivalry), False)
            self.assertIs(fits(THREE, ((("oil",), "oil", "barred"),), rivalry), False)

    def test_two_of_a_lot_are_no_rivals_whatever_the_word(self):
        for word, client in (("let", "oil"), ("let", "bank"), ("barred", "mill")):
            case = (("oil", "bank"), client, word)
            self.assertIs(fits(THREE, (case,), (("oil", "bank"), ("oil", "mill"))), False)
        self.assertIs(fits(THREE, ((("oil", "bank"), "mill", "barred"),), (("oil", "mill"),)), True)


class ErrorsTest(Checks):
    def bad(self, error, value, clients, cases, *rivalry):
        """Both functions refuse it, fits with whatever rivalry."""
        if not rivalry:
            self.keeps(error, value, told_back, clients, cases)
        for other in rivalry or ((), None, (("oil", "bank"),), "oil"):
            self.keeps(error, value, fits, clients, cases, other)

    def test_bad_clients(self):
        values = [(), ("oil",), (*EIGHT, "nine"), ("oil", "oil"), ("oil", "bank", "oil"), ["oil", "bank"], "oil bank",
                  ("oil", "Bank"),
                  ("oil", ""), ("oil", "toolonger"), ("oil", "b nk"), ("oil", 1), ("oil", True), ("oil", None),
                  (("oil", "bank"),),
                  ("oil", ("bank",)), ("oil", ["bank"]), {"oil": 1, "bank": 2}, ("oil", "b1"), ("oil", "bank\n"),
                  (0, 1)]
        for value in [*values, *odd_values()]:
            if value not in (("oil", "mill"), ("bank", "oil", "mill")):
                for cases in ((), CASES, None, [CASES]):
                    self.bad(BadClients, value, value, cases)

    def test_names_of_one_and_eight_letters(self):
        self.same(told_back(("a", "zzzzzzzz"), ()), ((), (("a", "zzzzzzzz"),), ()))
        self.same(told_back(EIGHT, ())[0], ())

    def test_how_many_cases(self):
        for many in (0, 1, 23, 24):
            cases = (CASES[0],) * many
            self.same(len(told_back(THREE, cases)), 3)
            self.assertIs(fits(THREE, cases, ()), True)
        for many in (25, 26):
            cases = (CASES[0],) * many
            self.bad(BadCases, cases, THREE, cases)

    def test_bad_cases(self):
        wrong = [(), ("oil",), (("oil",), "bank"), (("oil",), "bank", "let", "let"), (("oil",), "bank", "Let"),
                 (("oil",), "bank", "look"), (("oil",), "bank", ""), (("oil",), "bank", True),
                 (("oil",), "rail", "let"),
                 (("rail",), "bank", "let"), (("bank", "oil"), "mill", "let"), (("oil", "oil"), "mill", "let"),
                 (["oil"], "bank", "let"), ("oil", "bank", "let"), (("oil",), ("bank",), "let"),
                 [("oil",), "bank", "let"],
                 (("oil",), "let", "bank"), ((("oil",),), "bank", "let"), (None, "bank", "let"),
                 (("oil",), None, "let"),
                 (("oil",), "bank", None), (("oil",), "bank", ("let",)), ({"oil": 1}, "bank", "let"),
                 ("", "bank", "let")]
        for case in [*wrong, *odd_values()]:
            for cases in ((case,), (*CASES, case), (case, *CASES)):
                self.bad(BadCases, cases, THREE, cases)
        for value in odd_values():
            found = [(("oil",), value, "let"), (("oil",), "bank", value), (("oil", value), "bank", "let")]
            # One of the odd values is a lot of these clients.
            for case in found + ([(value, "bank", "let")] if value != ("oil", "mill") else []):
                cases = (case,)
                self.bad(BadCases, cases, THREE, cases)
        for cases in [list(CASES), CASES[0], {"a": CASES}, "let", None, 0, True, (CASES,), *odd_values()]:
            self.bad(BadCases, cases, THREE, cases)

    def test_bad_rivalries(self):
        wrong = [("oil", "bank"), (("bank", "oil"),), (("oil", "oil"),), (("oil", "rail"),),
                 (("oil", "mill"), ("oil", "bank")),
                 (("oil", "bank"), ("oil", "bank")), [("oil", "bank")], (["oil", "bank"],), (("oil", "bank", "mill"),),
                 (("oil",),),
                 ((),), (None,), "oil bank", (("oil", None),), ((True, "bank"),), {"oil": "bank"},
                 ((("oil", "bank"),),),
                 (("oil", "mill"), ("bank", "mill")), (("bank", "mill"), ("oil", "mill"), ("oil", "bank"))]
        for value in [*wrong, *odd_values()]:
            self.bad(BadRivalry, value, THREE, CASES, value)
        for value in odd_values():
            # One of the odd values is a pair of these clients.
            found = [(value,), (("oil", "bank"), value)] if value != ("oil", "mill") else [(("oil", "mill"), value)]
            for rivalry in (*found, (("oil", value),), ((value, "bank"),)):
                self.bad(BadRivalry, rivalry, THREE, CASES, rivalry)

    def test_ascending_is_not_in_sequence(self):
        clients = ("z", "a", "m")
        self.assertIs(fits(clients, (), (("a", "m"), ("z", "a"), ("z", "m"))), True)
        rivalry = (("z", "a"), ("z", "m"), ("a", "m"))
        self.bad(BadRivalry, rivalry, clients, (), rivalry)

    def test_which_error_comes_first(self):
        clients, cases, rivalry = ["oil"], [CASES], [("oil", "bank")]
        self.keeps(BadClients, clients, fits, clients, cases, rivalry)
        self.keeps(BadCases, cases, fits, THREE, cases, rivalry)
        self.keeps(BadRivalry, rivalry, fits, THREE, CASES, rivalry)
        self.keeps(BadClients, clients, told_back, clients, cases)
        # Cases that no rivalry fits are cases: fits tells so, and refuses what is no rivalry.
        nothing = (((), "oil", "barred"),)
        self.keeps(BadRivalry, rivalry, fits, THREE, nothing, rivalry)
        wrong = (((), "oil", "barred"), ((), "rail", "let"))
        self.keeps(BadCases, wrong, told_back, THREE, wrong)
