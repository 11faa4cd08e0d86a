"""Point 4: what is the text of a book, and the number that BadBook tells."""

import itertools

from tests.helpers import EIGHT, TEXT, Checks, deep, odd_values, text_of
from wallbooks.books import Book
from wallbooks.errors import BadBook

NINE = (*EIGHT, "tea")


class GoodTextsTest(Checks):
    def test_two_and_eight_clients(self):
        for clients in (EIGHT[:2], EIGHT):
            book = Book(text_of(clients))
            self.same(book.clients, clients)
            self.assertEqual(len(book), len(clients))

    def test_names_of_one_and_eight_letters(self):
        self.same(Book(text_of(("a", "zzzzzzzz"))).clients, ("a", "zzzzzzzz"))
        self.same(Book(text_of(("a", "b"), (), (("abcdefgh", (), ()), ("z", (), ())))).kinds, ("abcdefgh", "z"))

    def test_words_of_lines_are_names_too(self):
        clients = ("clients", "rivals", "kind", "looks", "writes")
        text = text_of(clients, (("kind", "rivals"),), (("kind", clients, ("kind",)), ("rivals", (), clients)))
        book = Book(text)
        self.same([book.clients, book.rivals, book.kinds], [clients, (("rivals", "kind"),), ("kind", "rivals")])
        self.same([book.looks("kind"), book.writes("kind"), book.looks("rivals")], [clients, ("kind",), ()])

    def test_a_client_and_a_kind_of_one_name(self):
        book = Book(text_of(("oil", "bank"), (), (("oil", ("bank",), ()),)))
        self.same([book.clients, book.kinds, book.looks("oil")], [("oil", "bank"), ("oil",), ("bank",)])

    def test_no_rivals(self):
        self.same(Book(text_of(EIGHT)).rivals, ())

    def test_all_pairs_of_eight_clients(self):
        pairs = tuple(itertools.combinations(EIGHT, 2))
        self.assertEqual(len(pairs), 28)
        self.same(Book(text_of(EIGHT, pairs)).rivals, tuple(sorted(pairs)))
        turned = [pair[::-1] for pair in reversed(pairs)]
        self.same(Book(text_of(EIGHT, turned)).rivals, tuple(sorted(pairs)))

    def test_rivals_are_told_in_either_sequence(self):
        clients = ("oil", "bank", "mill")
        told = (("mill", "bank"), ("mill", "oil"))
        self.same(Book(text_of(clients, told)).rivals, (("bank", "mill"), ("oil", "mill")))

    def test_one_and_four_kinds_in_their_sequence(self):
        for many in (1, 2, 3, 4):
            kinds = ("d", "b", "c", "a")[:many]
            self.same(Book(text_of(("x", "y"), (), [(kind, (), ()) for kind in kinds])).kinds, kinds)

    def test_lots(self):
        clients = ("oil", "bank", "mill")
        for many in range(4):
            for lot in itertools.combinations(clients, many):
                book = Book(text_of(clients, (), (("hand", lot, ()), ("eye", (), lot))))
                self.same([book.looks("hand"), book.writes("hand")], [lot, ()])
                self.same([book.looks("eye"), book.writes("eye")], [(), lot])

    def test_text_is_kept(self):
        self.same(Book(TEXT).text, TEXT)
        self.same(Book(text=TEXT).text, TEXT)


class BadTextsTest(Checks):
    def bad(self, number, text):
        self.refuses(BadBook, number, Book, text)

    def bad_line(self, at, line):
        """TEXT with one of its lines, counted from 1, told otherwise."""
        lines = TEXT.split("\n")
        lines[at - 1] = line
        self.bad(at, "\n".join(lines))

    def test_no_string(self):
        for value in odd_values():
            if not isinstance(value, str):
                self.bad(0, value)
        for value in ([TEXT], (TEXT,), {TEXT: TEXT}, Book(TEXT), deep(TEXT, 30), TEXT.split("\n")):
            self.bad(0, value)

    def test_text_without_signs_and_of_blanks(self):
        for text in ("", " ", "\n", "\n" + TEXT, " " + TEXT):
            self.bad(1, text)

    def test_number_of_clients(self):
        for names in ((), ("oil",), NINE):
            self.bad(1, text_of(names))

    def test_clients_that_are_no_names(self):
        for name in ("ninelette", "Oil", "o1l", "oi-l", "oil,", "7", "_", "oil\tb", "%"):
            self.bad_line(1, f"clients oil bank mill {name}")
            self.bad_line(1, f"clients {name} oil bank mill")

    def test_a_client_twice(self):
        self.bad(1, text_of(("oil", "bank", "oil")))
        self.bad(1, text_of(("oil", "oil")))

    def test_first_line_of_another_kind(self):
        for line in ("client oil bank mill", "Clients oil bank mill", "clientsoil bank mill", "oil bank mill",
                     "rivals oil mill", "kind hand", "looks oil", "writes"):
            self.bad_line(1, line)

    def test_two_lines_of_clients(self):
        lines = TEXT.split("\n")
        self.bad(2, "\n".join([lines[0], *lines]))

    def test_blanks(self):
        lines = TEXT.split("\n")
        for at, line in enumerate(lines, start=1):
            self.bad_line(at, line + " ")
            self.bad_line(at, " " + line)
            self.bad_line(at, line.replace(" ", "  ", 1))
            self.bad_line(at, line[::-1].replace(" ", "  ", 1)[::-1])
            self.bad_line(at, line.replace(" ", "\t", 1))
        for at, word in ((4, "looks"), (5, "writes")):
            self.bad_line(at, word + " ")
            self.bad_line(at, " " + word)

    def test_line_feeds(self):
        self.bad(6, TEXT + "\n")
        self.bad(6, TEXT + "\n\n")
        lines = TEXT.split("\n")
        for at in range(1, 5):
            self.bad(at + 1, "\n".join([*lines[:at], "", *lines[at:]]))

    def test_a_line_missing_at_the_end(self):
        lines = TEXT.split("\n")
        for many in (1, 2, 3, 4):
            self.bad(many + 1, "\n".join(lines[:many]))
        longer = [*lines, "kind eye", "looks", "writes"]
        Book("\n".join(longer))
        for many in (6, 7):
            self.bad(many + 1, "\n".join(longer[:many]))

    def test_a_line_missing_between_others(self):
        lines = TEXT.split("\n")
        for at in (1, 3, 4):
            self.bad(at, "\n".join([*lines[:at - 1], *lines[at:]]))
        longer = [*lines, "kind eye", "looks", "writes"]
        for at in (5, 6, 7):
            self.bad(at, "\n".join([*longer[:at - 1], *longer[at:]]))

    def test_one_line_too_many(self):
        lines = TEXT.split("\n")
        for line in ("clients oil bank", "rivals oil bank", "looks", "writes", "looks oil", "writes oil", "pair oil bank",
                     "house", "Kind eye", "kinds eye"):
            self.bad(6, "\n".join([*lines, line]))
        self.bad(5, "\n".join([*lines[:4], "looks oil", lines[4]]))
        self.bad(4, "\n".join([*lines[:3], "kind eye", *lines[3:]]))

    def test_lines_in_another_sequence(self):
        lines = TEXT.split("\n")
        self.bad(4, "\n".join([*lines[:3], lines[4], lines[3]]))
        self.bad(5, "\n".join([lines[0], *lines[2:], lines[1]]))
        self.bad(1, "\n".join([lines[1], lines[0], *lines[2:]]))

    def test_rivals(self):
        for line in ("rivals", "rivals oil", "rivals oil bank mill", "rivals oil oil", "rivals oil rail", "rivals rail oil",
                     "rivals hand oil", "rivals oil oil mill", "rivals oil mill oil", "rivals oil mill mill",
                     "rivals oil,mill", "rivals oil Mill", "Rivals oil mill", "rivalsoil mill", "rival oil mill"):
            self.bad_line(2, line)

    def test_rivals_told_twice(self):
        for again in (("oil", "mill"), ("mill", "oil")):
            self.bad(4, text_of(("oil", "bank", "mill"), (("oil", "mill"), ("bank", "oil"), again)))
            self.bad(3, text_of(("oil", "bank", "mill"), (("mill", "oil"), again, ("bank", "oil"))))

    def test_more_rivals_than_pairs(self):
        pairs = [*itertools.combinations(EIGHT, 2), EIGHT[:2]]
        self.bad(30, text_of(EIGHT, pairs))

    def test_no_kinds_and_five(self):
        self.bad(3, text_of(("oil", "mill"), (("oil", "mill"),), ()))
        self.bad(2, text_of(("oil", "mill"), (), ()))
        self.bad(14, text_of(("oil", "mill"), (), [(kind, (), ()) for kind in "abcde"]))

    def test_kinds(self):
        for line in ("kind", "kind hand eye", "kind Hand", "kind ninelette", "kind h1", "kindhand", "Kind hand", "hand"):
            self.bad_line(3, line)

    def test_a_kind_twice(self):
        self.bad(5, text_of(("oil", "mill"), (), (("a", (), ()), ("a", (), ()))))
        self.bad(8, text_of(("oil", "mill"), (), (("a", (), ()), ("b", (), ()), ("a", (), ()))))

    def test_lots_that_are_none(self):
        for told in (" bank oil", " oil mill bank", " oil oil", " oil bank oil", " rail", " oil rail", " hand", " Oil",
                     " oil,bank", "oil", " oil bank mill mill"):
            self.bad_line(4, "looks" + told)
            self.bad_line(5, "writes" + told)

    def test_the_first_bad_line_counts(self):
        self.bad(2, text_of(("oil", "bank"), (("oil", "oil"), ("oil", "oil")), (("A", ("x",), ()),)))
        self.bad(3, text_of(("oil", "bank"), (("oil", "bank"),), (("A", ("x",), ("x",)),)))
        self.bad(4, text_of(("oil", "bank"), (("oil", "bank"),), (("a", ("x",), ("x",)),)))
        self.bad(1, text_of(("oil", "oil"), (("oil", "oil"),), ()))

    def test_the_number_is_no_bool(self):
        with self.assertRaises(BadBook) as caught:
            Book("")
        self.assertIs(type(caught.exception.value), int)
        with self.assertRaises(BadBook) as caught:
            Book(None)
        self.assertIs(type(caught.exception.value), int)
