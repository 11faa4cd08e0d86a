"""Point 14: journals, written and read back, and the number of the first line that is wrong."""

import itertools
import random

from tests.helpers import EIGHT, TEXT, Checks, odd_values, some_book, some_fence, text_of
from wallbooks import journals as module
from wallbooks.books import Book
from wallbooks.errors import BadBook, BadJournal
from wallbooks.fences import Fence, bare, plain, walls
from wallbooks.houses import House
from wallbooks.journals import journal, read_journal

THREE = ("oil", "bank", "mill")
PAIRS = ["pair bank mill", "pair bank oil"]
STEPS = ["hire hand", "look 0 bank", "write 0 oil"]
LINES = [*TEXT.split("\n"), *PAIRS, "house", *STEPS]


def wander(rng, house, steps):
    """Some steps of all words, and some taken back."""
    for _ in range(steps):
        could = [(word, person, client) for person in range(len(house)) for word, client in house.can(person)]
        chance = rng.random()
        if len(house) < 8 and (not could or chance < 0.3):
            house.hire(rng.choice(house.fence.book.kinds))
        elif chance < 0.4 and house.done:
            house.undo()
        elif chance < 0.5 and could:
            house.leave(rng.choice([person for _, person, _ in could]))
        elif could:
            word, person, client = rng.choice(could)
            getattr(house, word)(person, client)
    return house


class JournalChecks(Checks):
    def bad(self, number, *lines):
        self.refuses(BadJournal, number, read_journal, "\n".join(lines))

    def reads(self, *lines):
        """The text is a journal, and just the one of its house."""
        house = read_journal("\n".join(lines))
        self.same(journal(house), "\n".join(lines))
        return house


class InterfaceTest(JournalChecks):
    def test_functions_are_defined_in_the_file(self):
        for name in ("journal", "read_journal"):
            self.assertEqual(getattr(module, name).__module__, "wallbooks.journals")

    def test_by_name(self):
        house = read_journal(text="\n".join(LINES))
        self.assertIs(type(house), House)
        self.same(journal(house=house), "\n".join(LINES))

    def test_equal_calls_return_equal_houses(self):
        one, other = read_journal("\n".join(LINES)), read_journal("\n".join(LINES))
        self.assertTrue(one == other and one is not other)
        one.undo()
        self.assertTrue(one != other)
        self.same(journal(other), "\n".join(LINES))


class WrittenTest(JournalChecks):
    def test_lines(self):
        house = House(walls(Book(TEXT)))
        self.same(journal(house), "\n".join(LINES[:8]))
        house.hire("hand")
        house.look(0, "bank")
        house.write(0, "oil")
        self.same(journal(house), "\n".join(LINES))
        house.leave(0)
        self.same(journal(house).split("\n")[8:], [*STEPS, "leave 0"])

    def test_only_steps_that_stand(self):
        house = read_journal("\n".join(LINES))
        house.undo()
        self.same(journal(house), "\n".join(LINES[:-1]))
        with house.trial():
            house.undo()
            self.same(journal(house), "\n".join(LINES[:-2]))
        self.same(journal(house), "\n".join(LINES[:-1]))
        house.redo()
        self.same(journal(house), "\n".join(LINES))

    def test_pairs_ascend_whatever_their_sequence(self):
        book = Book(text_of(("z", "a", "m"), (), (("hand", (), ()),)))
        for pairs in itertools.permutations((("z", "a"), ("a", "m"), ("m", "z"))):
            self.same(journal(House(Fence(book, pairs))).split("\n")[4:], ["pair a m", "pair m z", "pair z a", "house"])

    def test_bare_and_without_steps(self):
        self.same(journal(House(bare(Book(TEXT)))), TEXT + "\nhouse")


class ReadTest(JournalChecks):
    def test_read_back(self):
        rng = random.Random(160)
        for many in (2, 3, 4, 5, 8) * 12:
            book = some_book(rng, many, rng.choice((0, 0.3, 0.6)), rng.choice((0.3, 0.7)))
            house = wander(rng, House(rng.choice((plain(book), walls(book), bare(book), some_fence(rng, book)))), 25)
            again = read_journal(journal(house))
            self.assertTrue(again == house)
            self.same([again.fence, again.staff, again.run, again.done], [house.fence, house.staff, house.run,
                                                                          house.done])
            self.same([again.can(at) for at in range(len(again))], [house.can(at) for at in range(len(house))])
            self.same(journal(again), journal(house))

    def test_what_was_undone_is_not_read_back(self):
        house = read_journal("\n".join(LINES))
        house.undo()
        again = read_journal(journal(house))
        self.assertTrue(again == house)
        with self.assertRaises(ValueError):
            again.redo()
        for _ in range(2):
            again.undo()
        self.same(again.staff, ())

    def test_full_houses(self):
        book = Book(text_of(EIGHT, (), [(kind, EIGHT, EIGHT) for kind in ("a", "b", "c", "d")]))
        house = House(plain(book))
        for person in range(8):
            house.hire("abcd"[person % 4])
        for at in range(40):
            (house.look if at % 2 else house.write)(at % 8, EIGHT[at // 5])
        for person in range(8):
            house.leave(person)
        again = self.reads(*journal(house).split("\n"))
        self.assertTrue(again == house)
        lines = journal(house).split("\n")
        self.bad(len(lines) + 1, *lines, "hire a")
        before = lines[:-8]
        self.bad(len(before) + 1, *before, "look 0 oil")
        self.bad(len(before) + 1, *before, "write 0 oil", "leave 0")

    def test_the_text_of_the_document(self):
        house = self.reads(*LINES)
        self.same([house.staff, house.run, house.fence.pairs], [
            ("hand",), ((0, "look", "bank"), (0, "write", "oil")), (("bank", "mill"), ("bank", "oil"))])


class NoStringTest(JournalChecks):
    def test_no_string(self):
        for value in [*odd_values(), LINES, tuple(LINES), House(plain(Book(TEXT))), Book(TEXT), {0: "\n".join(LINES)}]:
            if not isinstance(value, str):
                self.refuses(BadJournal, 0, read_journal, value)

    def test_without_signs(self):
        self.refuses(BadJournal, 2, read_journal, "")

    def test_without_a_line_house(self):
        for at in range(len(LINES)):
            lines = [line for line in LINES[:at] if line != "house"]
            self.bad(max(len(lines), 1) + 1, *lines)
        self.bad(12, *[line if line != "house" else "House" for line in LINES])
        for wrong in ("house ", " house", "house hand", "House", "houses", "hous", "", "house\t"):
            lines = [line if line != "house" else wrong for line in LINES]
            self.bad(len(LINES) + 1, *lines)
        self.bad(2, "nothing")
        self.bad(3, "", "")
        self.bad(4, "pair", "pair", "hire hand")
        self.bad(10, *LINES[:7], *STEPS[:2])


class BookLinesTest(JournalChecks):
    """The lines ahead of the first line of a pair, or of the line house."""

    def test_what_bad_book_tells(self):
        rng = random.Random(161)
        for _ in range(300):
            lines = TEXT.split("\n")
            for _ in range(rng.choice((1, 1, 2))):
                at = rng.randrange(len(lines) + 1)
                change = rng.randrange(4)
                if change == 0:
                    lines[at:at + 1] = []
                elif change == 1:
                    lines.insert(at, rng.choice((*lines, "", "kind pen", "looks", "rivals oil bank", "hire hand",
                                                 "pairs oil bank", "Pair")))
                elif change == 2 and at < len(lines):
                    lines[at] = lines[at].replace("bank", rng.choice(("rail", "", "oil")))
                elif at < len(lines):
                    lines[at] += rng.choice((" ", " x", " oil"))
            try:
                Book("\n".join(lines))
            except BadBook as wrong:
                self.bad(wrong.value, *lines, "house", *STEPS)
                self.bad(wrong.value, *lines, "pair no no", "house", "nothing")
                self.bad(wrong.value, *lines, "pair", "house")
            else:
                self.same(read_journal("\n".join([*lines, "house"])).fence.book.text, "\n".join(lines))

    def test_a_line_that_is_missing_is_the_one_behind_them(self):
        for many in range(1, 5):
            lines = TEXT.split("\n")[:many]
            if many != 2:
                self.bad(many + 1, *lines, "house")
                self.bad(many + 1, *lines, *PAIRS, "house")
                self.bad(many + 1, *lines, "pair x", "house", "x")
        self.bad(3, *TEXT.split("\n")[:2], "house")

    def test_none_of_them(self):
        self.bad(1, "house")
        self.bad(1, "house", *STEPS)
        self.bad(1, "pair bank mill", "house")
        self.bad(1, *PAIRS, *LINES)
        self.bad(1, "house", *LINES)
        self.bad(1, "", "house")
        self.bad(1, "pair", *LINES)

    def test_a_line_of_a_pair_amid_them(self):
        lines = TEXT.split("\n")
        for at in range(len(lines)):
            self.bad(max(at + 1, 1), *lines[:at], "pair bank mill", *lines[at:], "house")
        self.bad(3, *lines[:2], "house", *lines[2:], "house", *STEPS)

    def test_the_first_word_has_to_be_pair(self):
        for word in ("pairs", "Pair", " pair", "pai", ""):
            self.bad(6, *LINES[:5], f"{word} bank mill", "house")

    def test_books_may_go_on_with_kinds(self):
        lines = [*TEXT.split("\n"), "kind pen", "looks", "writes oil bank mill"]
        self.same(self.reads(*lines, "house", "hire pen").staff, ("pen",))
        self.bad(8, *lines[:-1], "", "house", "hire pen")


class PairLinesTest(JournalChecks):
    def reads_pairs(self, *pairs):
        return self.reads(*LINES[:5], *pairs, "house", "hire hand").fence.pairs

    def test_none_and_all(self):
        self.same(self.reads_pairs(), ())
        every = [f"pair {one} {other}" for one, other in plain(Book(TEXT)).pairs]
        self.same(self.reads_pairs(*every), plain(Book(TEXT)).pairs)
        for many in range(5):
            for some in itertools.combinations(every, many):
                self.same(len(self.reads_pairs(*some)), many)

    def test_out_of_sequence_and_twice(self):
        every = [f"pair {one} {other}" for one, other in plain(Book(TEXT)).pairs]
        for some in itertools.product(every, repeat=3):
            wrong = [at for at in (1, 2) if some[at] <= some[at - 1]]
            if wrong:
                self.bad(6 + wrong[0], *LINES[:5], *some, "house", "nothing")
            else:
                self.reads_pairs(*some)

    def test_no_pairs_of_the_book(self):
        for words in ("oil mill", "mill oil", "bank bank", "bank rail", "rail bank", "bank", "", "bank mill oil",
                      "bank  mill",
                      " bank mill", "bank mill ", "Bank mill", "bank\tmill"):
            for ahead in ((), ("pair bank mill",)):
                self.bad(6 + len(ahead), *LINES[:5], *ahead, f"pair {words}", "house", "nothing")
            self.bad(7, *LINES[:5], "pair bank mill", f"pair {words}", "pair oil mill", "house")
        self.bad(6, *LINES[:5], "pair", "house")

    def test_other_lines_among_them(self):
        for line in ("", "Pair bank oil", "hire hand", "house ", " pair bank oil", "kind pen", "pairs bank oil",
                     "bank oil"):
            self.bad(7, *LINES[:6], line, "pair bank oil", "house")
            self.bad(7, *LINES[:6], line, "house")

    def test_the_first_one_that_is_wrong(self):
        self.bad(6, *LINES[:5], "pair oil mill", "pair mill oil", "house", "nothing")
        self.bad(7, *LINES[:5], "pair bank oil", "pair bank mill", "pair bank mill", "house", "nothing")
        self.bad(3, *LINES[:2], *LINES[3:5], "pair oil mill", "house", "nothing")


class StepLinesTest(JournalChecks):
    def wrong(self, line, *ahead):
        """The line is wrong behind these steps, whatever comes behind it."""
        lines = [*LINES[:8], *ahead]
        read_journal("\n".join(lines))
        for behind in ((), ("hire hand",), ("nothing", "house"), ("",)):
            self.bad(len(lines) + 1, *lines, line, *behind)

    def test_no_form(self):
        for line in ("", " ", "nothing", "house", "hire", "hire ", " hire hand", "hire hand ", "hire  hand",
                     "hire hand hand", "Hire hand",
                     "look", "look 0", "look 0 oil oil", "look  0 oil", "look 0  oil", "look oil 0", "look 0 ",
                     "look  oil", "write 0",
                     "leave", "leave 0 oil", "leave ", "leave oil", "undo", "redo", "looked 0", "can 0", "risk",
                     "people", "papers oil",
                     "pair bank mill", "kind hand", "clients oil bank", "hire\thand", "holds 0", "knows 0", "copy",
                     "trial", "keep"):
            self.wrong(line, "hire hand")

    def test_refused(self):
        for line in ("hire pen", "hire oil", "look 1 oil", "look 0 rail", "look 0 mill", "write 0 bank", "write 0 mill",
                     "leave 1", "look -1 oil",
                     "write 1 oil", "look 0 hand", "hire 0", "leave -1", "leave 999999999", "write 0 0", "look 0 0",
                     "hire Hand"):
            self.wrong(line, "hire hand", "look 0 oil")
        self.wrong("look 0 oil", "hire hand", "leave 0")
        self.wrong("leave 0", "hire hand", "leave 0")
        self.wrong("look 0 oil")
        self.wrong("hire hand", *["hire hand"] * 8)
        self.wrong("look 0 oil", "hire hand", *["look 0 oil"] * 40)

    def test_numbers_as_python_writes_them(self):
        for number in ("00", "01", "+0", "-0", "0.0", "1e0", "0x0", "0_0", " 0", "0 ", "zero", "O", "--0", "-", "",
                       "-01", "0-", "1_0"):
            self.wrong(f"look {number} oil", "hire hand", "hire hand")
            self.wrong(f"leave {number}", "hire hand", "hire hand")
        house = self.reads(*LINES[:8], *["hire hand"] * 8, "look 7 oil", "leave 1")
        self.same(house.run, ((7, "look", "oil"),))
        self.wrong("leave 10", *["hire hand"] * 8)
        self.wrong("leave -1", *["hire hand"] * 8)

    def test_what_comes_first_of_form_and_refusal(self):
        lines = [*LINES[:8], "hire hand"]
        self.bad(10, *lines, "look 5 oil", "nothing")
        self.bad(10, *lines, "nothing", "look 5 oil")
        self.bad(11, *lines, "look 0 oil", "look 0 mill", "nothing")

    def test_a_line_feed_at_the_end(self):
        text = "\n".join(LINES)
        self.refuses(BadJournal, len(LINES) + 1, read_journal, text + "\n")
        self.refuses(BadJournal, 9, read_journal, "\n".join(LINES[:8]) + "\n")
        self.refuses(BadJournal, 1, read_journal, "\n" + text)
        self.refuses(BadJournal, 9, read_journal, "\n".join([*LINES[:8], "", *LINES[8:]]))
        self.refuses(BadJournal, 6, read_journal, TEXT + "\n\nhouse")

    def test_each_line_out(self):
        for at in range(len(LINES)):
            lines = LINES[:at] + LINES[at + 1:]
            # Without its second pair the last step is fenced; without the line house it ends too early.
            wanted = {0: 1, 2: 3, 3: 4, 4: 5, 6: 10, 7: 11, 8: 9}
            if at in wanted:
                self.bad(wanted[at], *lines)
            else:
                self.same(journal(read_journal("\n".join(lines))), "\n".join(lines))

    def test_each_line_twice(self):
        twice_is_fine = ("hire hand", "look 0 bank", "write 0 oil")
        for at, line in enumerate(LINES):
            lines = LINES[:at + 1] + LINES[at:]
            if line in twice_is_fine:
                self.reads(*lines)
            else:
                self.bad(at + 2, *lines)
