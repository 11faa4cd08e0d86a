"""What several test files need: texts of books, odd values, runs told by their words, and a strict check of errors."""

import itertools
import unittest

from wallbooks.books import Book
from wallbooks.errors import (
    Fenced, Full, Left, NoClient, NoKind, NoPerson, NoRight, NothingToRedo, NothingToUndo, Rival,
)
from wallbooks.fences import Fence, plain
from wallbooks.houses import House
from wallbooks.runs import barred, meeting

TEXT = "clients oil bank mill\nrivals oil mill\nkind hand\nlooks oil bank mill\nwrites oil bank mill"
EIGHT = ("rail", "oil", "bank", "mill", "a", "zzzzzzzz", "ship", "coal")


def text_of(clients, rivals=(), kinds=(("hand", (), ()),)):
    """The text of a book: kinds are told as (name, looks, writes)."""
    lines = [" ".join(("clients", *clients))]
    lines += [" ".join(("rivals", *pair)) for pair in rivals]
    for kind, looks, writes in kinds:
        lines += [f"kind {kind}", " ".join(("looks", *looks)), " ".join(("writes", *writes))]
    return "\n".join(lines)


def deep(value, depth):
    """The value within so many tuples, lists and dicts."""
    for level in range(depth):
        value = ((value,), [value], {"oil": value})[level % 3]
    return value


def odd_values():
    """Values of many kinds, none of which is a client, a kind, a word or a pair of the book of TEXT."""
    book = Book(TEXT)
    return [
        0, 1, -1, True, False, None, "", "rail", "Oil", "oil ", "oil bank", "oiloil",
        ["oil"], ["oil", "bank"], [], {}, {"oil": "bank"}, ("oil", "mill"), ("bank", "oil", "mill"),
        ((("oil", "bank"),),), [("oil", "bank")], (["oil", "bank"],), (1, True), (None,), ((),),
        book, plain(book), (book,), [plain(book)], (("oil", book),), {"a": {"b": [book]}},
        deep("oil", 30), deep(book, 30), deep(plain(book), 29), Fence(book, ()), (book, plain(book)),
        House(plain(book)), (House(plain(book)),), {"oil": [House(plain(book))]}, deep(House(plain(book)), 30),
    ]


def same(one, other):
    """Whether two values are alike in all their parts, True not being 1 and a list not a tuple."""
    if type(one) is not type(other):
        return False
    if isinstance(one, (tuple, list)):
        return len(one) == len(other) and all(same(a, b) for a, b in zip(one, other))
    if isinstance(one, dict):
        return list(one) == list(other) and all(same(one[key], other[key]) for key in one)
    return one == other


def some_book(rng, many, rivals=0.3, rights=0.6, kinds=None):
    """A book of so many clients; rivals and rights are there with these chances."""
    clients = tuple(rng.sample(EIGHT, many))
    pairs = [pair for pair in itertools.combinations(clients, 2) if rng.random() < rivals]
    names = rng.sample(("hand", "eye", "pen", "oil"), kinds or rng.randint(1, 4))
    lots = [[tuple(client for client in clients if rng.random() < rights) for _ in "lw"] for _ in names]
    return Book(text_of(clients, pairs, [(name, *both) for name, both in zip(names, lots)]))


def some_fence(rng, book, share=0.5):
    """A fence of the book; each pair is there with this chance."""
    return Fence(book, tuple(pair for pair in plain(book).pairs if rng.random() < share))


def row_of(many, last=2):
    """A book of clients in a row, of which only the first and the last are rivals, and the fence of its steps.

    One kind goes the steps, and another one looks at the last clients, so many.
    """
    clients = tuple("hgfedcba"[:many])
    kinds = (("hand", clients[:-1], clients[1:]), ("eye", clients[-last:], ()))
    book = Book(text_of(clients, ((clients[-1], clients[0]),), kinds))
    return Fence(book, tuple(zip(clients, clients[1:])))


def two_rows(one, other, looker=()):
    """The book, and the fence, of two rows of clients of which the first ones are rivals, and both end at one client.

    Each kind goes the steps of one row; who does not belong to either looks at these clients.
    """
    kinds = [("ones", one[:-1], one[1:]), ("others", other[:-1], other[1:]), ("looker", looker or one[-1:], ())]
    clients = one + tuple(client for client in other if client not in one)
    lots = [(kind, *(tuple(c for c in clients if c in lot) for lot in both)) for kind, *both in kinds]
    book = Book(text_of(clients, ((one[0], other[0]),), lots))
    return Fence(book, tuple(zip(one, one[1:])) + tuple(zip(other, other[1:])))


def have_rivals(book, clients):
    """Whether two of these clients are rivals."""
    return any(pair in book.rivals for pair in itertools.permutations(clients, 2))


def rights_of(book, staff):
    """All deeds that the staff has the right to."""
    return [(person, word, client) for person, kind in enumerate(staff)
            for word, lot in (("look", book.looks(kind)), ("write", book.writes(kind))) for client in lot]


def told_stand(book, staff, run):
    """What stand tells, by the words of point 6, as sets: looked, held, known of each person, and papers by client."""
    looked, held, known = ([set() for _ in staff] for _ in range(3))
    papers = {client: {client} for client in book.clients}
    for person, word, client in run:
        held[person].add(client)
        if word == "look":
            looked[person].add(client)
            known[person] |= papers[client]
        else:
            papers[client] |= known[person]
    return looked, held, known, papers


def told_goes(fence, staff, run, deed):
    """Whether the deed goes by the fence behind the run, by the words of point 6."""
    person, word, client = deed
    looked, held, _, _ = told_stand(fence.book, staff, run)
    if any(have_rivals(fence.book, {one, client}) for one in held[person]):
        return False
    return word == "look" or all(one == client or (one, client) in fence.pairs for one in looked[person])


def reachable(fence, borne=None):
    """For each client, all those whose facts come into its papers by hops, by the words of point 7.

    At first papers bear their own facts alone, or those that are told.
    """
    book = fence.book
    lots = {client: set(borne[client]) if borne else {client} for client in book.clients}
    hops = [(one, other) for one, other in fence.pairs
            if any(one in book.looks(kind) and other in book.writes(kind) for kind in book.kinds)]
    for _ in book.clients:
        for one, other in hops:
            lots[other] |= lots[one]
    return lots


def told_closed(fence, lots):
    """Whether these lots, by client, are closed for the fence, by the words of point 7."""
    book = fence.book
    for client in book.clients:
        if client not in lots[client]:
            return False
    for kind in book.kinds:
        for one, other in fence.pairs:
            if one in book.looks(kind) and other in book.writes(kind) and not set(lots[one]) <= set(lots[other]):
                return False
        for one, other in itertools.product(book.looks(kind), repeat=2):
            if have_rivals(book, {one, other}):
                continue
            if any(have_rivals(book, {a, b}) for a, b in itertools.product(lots[one], lots[other])):
                return False
    return True


def told_apart(fence):
    """Whether the fence keeps apart: the least table that could be closed is."""
    return told_closed(fence, reachable(fence))


class Otherwise:
    """A book told by other names, with clients, lines of rivals and kinds in other sequences."""

    def __init__(self, rng, book):
        self.names = dict(zip(book.clients, rng.sample("abcdefgh", len(book))))
        self.kinds = dict(zip(book.kinds, rng.sample("wxyz", len(book.kinds))))
        clients = rng.sample(sorted(self.names.values()), len(book))
        rivals = [rng.sample((self.names[one], self.names[other]), 2) for one, other in book.rivals]
        lots = [(self.kinds[kind], *([client for client in clients if client in {self.names[one] for one in lot}]
                                     for lot in (book.looks(kind), book.writes(kind)))) for kind in book.kinds]
        self.book = Book(text_of(clients, rng.sample(rivals, len(rivals)), rng.sample(lots, len(lots))))

    def lot(self, clients):
        """The lot of these clients."""
        named = {self.names[client] for client in clients}
        return tuple(client for client in self.book.clients if client in named)

    def lots(self, lots):
        """These lots, by their first clients in sequence."""
        told = [self.lot(lot) for lot in lots]
        return tuple(sorted(told, key=lambda lot: self.book.clients.index(lot[0])))

    def staff(self, staff):
        return tuple(self.kinds[kind] for kind in staff)

    def run(self, run):
        return tuple((person, word, self.names[client]) for person, word, client in run)

    def fence(self, fence):
        return Fence(self.book, tuple((self.names[one], self.names[other]) for one, other in fence.pairs))


class Crowd:
    """Some people of whatever kinds, who go through all their runs by a fence, with numbers for sets of clients."""

    def __init__(self, fence, many, borne=None):
        book = fence.book
        at = {client: 1 << number for number, client in enumerate(book.clients)}
        self.many = many
        self.foes = {at[client]: sum(at[rival] for rival in book.rivals_of(client)) for client in book.clients}
        self.sources = {at[client]: at[client] + sum(at[a] for a, b in fence.pairs if b == client) for client in at}
        self.kinds = [[[at[client] for client in lot] for lot in (book.looks(kind), book.writes(kind))]
                      for kind in book.kinds]
        self.borne = {at[client]: sum(at[fact] for fact in borne[client]) if borne else at[client] for client in at}

    def meets(self, known):
        return any(known & client and known & foes for client, foes in self.foes.items())

    def behind(self, person, papers):
        """All (person, papers) that stand behind one more deed of this person."""
        kind, looked, held, known = person
        looks, writes = self.kinds[kind]
        for client in looks:
            if not held & self.foes[client]:
                yield (kind, looked | client, held | client, known | papers[client]), papers
        for client in writes:
            if not held & self.foes[client] and not looked & ~self.sources[client]:
                yield (kind, looked, held | client, known), {**papers, client: papers[client] | known}

    def fewest(self, most=None):
        """The number of deeds of a shortest run with a meeting, None if none of these has one (or none so short)."""
        latest = [((), self.borne)]
        seen = set()
        for deeds in itertools.count(1):
            reached = []
            for people, papers in latest:
                anew = [(kind, 0, 0, 0) for kind in range(len(self.kinds))] if len(people) < self.many else []
                for person in {*people, *anew}:
                    others = list(people)
                    if person in others:
                        others.remove(person)
                    for after, borne in self.behind(person, papers):
                        if self.meets(after[3]):
                            return deeds
                        everybody = tuple(sorted([*others, after]))
                        key = everybody, tuple(borne.values())
                        if key not in seen:
                            seen.add(key)
                            reached.append((everybody, borne))
            if not reached or deeds == most:
                return None
            latest = reached


class Model:
    """A house by the words of point 13: each call tells what the house has to return, or the error it has to raise."""

    def __init__(self, fence):
        self.fence = fence
        self.steps = []
        self.undone = []

    def staff(self):
        return tuple(step[1] for step in self.steps if step[0] == "hire")

    def run(self):
        return tuple((step[1], step[0], step[2]) for step in self.steps if step[0] in ("look", "write"))

    def stands(self):
        return told_stand(self.fence.book, self.staff(), self.run())

    def lot(self, members):
        return tuple(client for client in self.fence.book.clients if client in members)

    def wrong_deed(self, person, word, client):
        """The first error that applies to a deed, None if there is none."""
        book = self.fence.book
        if wrong := self.wrong_person(person):
            return wrong
        if ("leave", person) in self.steps:
            return Left, person
        if client not in book.clients:
            return NoClient, client
        kind = self.staff()[person]
        if client not in {"look": book.looks, "write": book.writes}[word](kind):
            return NoRight, (person, word, client)
        looked, held = (self.lot(lots[person]) for lots in self.stands()[:2])
        foes = [one for one in held if have_rivals(book, {one, client})]
        if foes:
            return Rival, (client, foes[0])
        fenced = [one for one in looked if one != client and (one, client) not in self.fence.pairs]
        if word == "write" and fenced:
            return Fenced, (fenced[0], client)
        return (Full, 40) if len(self.run()) == 40 else None

    def wrong_person(self, person):
        return None if type(person) is int and 0 <= person < len(self.staff()) else (NoPerson, person)

    def wrong(self, name, *args):
        """The first error that applies to a call of a step, undo or redo, None if there is none."""
        if name in ("look", "write"):
            return self.wrong_deed(args[0], name, args[1])
        if name == "hire":
            if args[0] not in self.fence.book.kinds:
                return NoKind, args[0]
            return (Full, 8) if len(self.staff()) == 8 else None
        if name == "leave":
            return self.wrong_person(args[0]) or ((Left, args[0]) if ("leave", args[0]) in self.steps else None)
        if name == "undo":
            return None if self.steps else (NothingToUndo, None)
        return None if self.undone else (NothingToRedo, None)

    def do(self, name, *args):
        """Do a call that is not wrong; tell what it returns."""
        if name == "undo":
            self.undone.append(self.steps.pop())
        elif name == "redo":
            self.steps.append(self.undone.pop())
        else:
            self.steps.append((name, *args))
            self.undone = []
        return len(self.staff()) - 1 if name == "hire" else None

    def can(self, person):
        book, kind = self.fence.book, self.staff()[person]
        rights = [("look", client) for client in book.looks(kind)] + [("write", client) for client in book.writes(kind)]
        return tuple(sorted((word, client) for word, client in rights if self.wrong_deed(person, word, client) is None))

    def met(self):
        run = self.run()
        for at, deed in enumerate(run):
            if have_rivals(self.fence.book, told_stand(self.fence.book, self.staff(), run[:at + 1])[2][deed[0]]):
                return at
        return None


class Checks(unittest.TestCase):
    """Checks that are stricter than those of unittest."""

    def same(self, found, wanted):
        self.assertTrue(same(found, wanted), f"{found!r} is not {wanted!r}")

    def refuses(self, error, value, call, *args, **named):
        """The call raises just this error, with a value like this one."""
        with self.assertRaises(error) as caught:
            call(*args, **named)
        self.assertIs(type(caught.exception), error)
        self.same(caught.exception.value, value)

    def keeps(self, error, value, call, *args, **named):
        """The call raises just this error, with this very value."""
        with self.assertRaises(error) as caught:
            call(*args, **named)
        self.assertIs(type(caught.exception), error)
        self.assertIs(caught.exception.value, value)

    def refused(self, wrong, call, *args):
        """The call raises just this (error, value)."""
        self.refuses(wrong[0], wrong[1], call, *args)

    def stands(self, house, model):
        """All that a house tells, but risk, is what its model tells."""
        staff, run = model.staff(), model.run()
        self.same((house.fence, house.staff, house.run, house.done, len(house)),
                  (model.fence, staff, run, len(model.steps), len(staff)))
        looked, held, known, papers = model.stands()
        for person, kind in enumerate(staff):
            self.same(house[person], kind)
            self.same([house.looked(person), house.holds(person), house.knows(person), house.can(person)],
                      [model.lot(looked[person]), model.lot(held[person]), model.lot(known[person]), model.can(person)])
        for client in model.fence.book.clients:
            self.same(house.papers(client), model.lot(papers[client]))
        self.same(house.met(), model.met())

    def way_round(self, fence, staff, run):
        """This is a run by the fence, in which each person has a deed, and just the last deed is a meeting."""
        self.assertIsNone(barred(fence, staff, run))
        self.assertEqual(meeting(fence.book, staff, run), len(run) - 1)
        self.assertEqual({deed[0] for deed in run}, set(range(len(staff))))
        for at, deed in enumerate(run):
            self.assertTrue(told_goes(fence, staff, run[:at], deed))
            known = told_stand(fence.book, staff, run[:at + 1])[2][deed[0]]
            self.assertIs(have_rivals(fence.book, known), at == len(run) - 1)
