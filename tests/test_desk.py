"""Point 14: a desk, led and asked by lines."""

import random

from tests.helpers import EIGHT, TEXT, Checks, odd_values, some_book, text_of
from wallbooks import desk as module
from wallbooks.books import Book
from wallbooks.desk import Desk
from wallbooks.errors import (
    BadJournal, BadLine, Fenced, Full, Left, NoClient, NoKind, NoPerson, NoRight, NothingToRedo, NothingToUndo, Rival,
)
from wallbooks.fences import plain, walls
from wallbooks.houses import House
from wallbooks.journals import journal, read_journal

THREE = ("oil", "bank", "mill")
ANSWERS = ("looked", "holds", "knows")


class DeskChecks(Checks):
    def setUp(self):
        self.desk = Desk(journal(House(plain(Book(TEXT)))))

    def says(self, *told):
        """Lines and their answers, by turns."""
        for line, answer in zip(told[::2], told[1::2]):
            self.same(self.desk.say(line), answer)


class InterfaceTest(DeskChecks):
    def test_the_class_is_defined_in_the_file_and_has_its_method(self):
        self.assertEqual(Desk.__module__, "wallbooks.desk")
        self.assertIn("say", vars(Desk))
        self.assertIs(vars(module)["Desk"], Desk)
        self.assertIn("house", vars(self.desk))

    def test_by_name(self):
        desk = Desk(text=journal(House(walls(Book(TEXT)))))
        self.same([desk.say(line="hire hand"), desk.house.staff], ["0", ("hand",)])

    def test_bad_journals(self):
        for value in odd_values():
            if not isinstance(value, str):
                self.refuses(BadJournal, 0, Desk, value)
        text = journal(House(walls(Book(TEXT))))
        self.refuses(BadJournal, 2, Desk, "")
        self.refuses(BadJournal, 6, Desk, TEXT)
        self.refuses(BadJournal, 9, Desk, text + "\n")
        self.refuses(BadJournal, 10, Desk, text + "\nhire hand\nlook 0 rail")

    def test_the_house_of_a_journal(self):
        house = House(walls(Book(TEXT)))
        house.hire("hand")
        house.look(0, "bank")
        desk = Desk(journal(house))
        self.assertTrue(desk.house == house and type(desk.house) is House)
        desk.say("look 0 bank")
        self.assertTrue(desk.house != house)
        self.assertTrue(Desk(journal(desk.house)).house == desk.house)
        self.same(len(Desk(journal(house)).house.run), 1)


class AnswersTest(DeskChecks):
    def test_steps(self):
        self.says("hire hand", "0", "hire hand", "1", "look 0 oil", "ok", "write 0 bank", "ok", "leave 1", "ok", "undo",
                  "ok", "redo", "ok")
        self.same([self.desk.house.staff, self.desk.house.run, self.desk.house.done],
                  [("hand", "hand"), ((0, "look", "oil"), (0, "write", "bank")), 5])
        self.says(*[word for _ in range(5) for word in ("undo", "ok")])
        self.same(self.desk.house.done, 0)
        self.says("redo", "ok", "redo", "ok", "hire hand", "2")

    def test_empty_lots_and_nobody(self):
        self.says("people", ".", "hire hand", "0", "looked 0", ".", "holds 0", ".", "knows 0", ".", "people", "hand")
        self.says("leave 0", "ok", "can 0", ".", "people", "hand", "papers oil", "oil", "undo", "ok", "undo", "ok",
                  "people", ".")

    def test_lots(self):
        self.says("hire hand", "0", "look 0 oil", "ok", "write 0 bank", "ok", "hire hand", "1", "look 1 mill", "ok",
                  "look 1 bank", "ok")
        self.says("looked 0", "oil", "holds 0", "oil bank", "knows 0", "oil", "looked 1", "bank mill", "holds 1",
                  "bank mill",
                  "knows 1", "oil bank mill", "papers oil", "oil", "papers bank", "oil bank", "papers mill", "mill",
                  "people", "hand hand")

    def test_can(self):
        self.says("hire hand", "0", "can 0", "look bank, look mill, look oil, write bank, write mill, write oil")
        self.says("look 0 mill", "ok", "can 0", "look bank, look mill, write bank, write mill")
        desk = Desk(journal(House(plain(Book(text_of(THREE, (), (("eye", ("mill",), ()), ("no", (), ()))))))))
        self.same([desk.say("hire eye"), desk.say("hire no"), desk.say("can 0"), desk.say("can 1")],
                  ["0", "1", "look mill", "."])

    def test_risk(self):
        self.says("risk", "round", "hire hand", "0", "hire hand", "1", "look 0 oil", "ok", "write 0 bank", "ok",
                  "look 1 mill", "ok",
                  "risk", "round", "look 1 bank", "ok", "risk", "met", "undo", "ok", "risk", "round")
        self.same(Desk(journal(House(walls(Book(TEXT))))).say("risk"), "apart")

    def test_kinds_of_people(self):
        kinds = (("pen", THREE, THREE), ("hand", (), ()), ("eye", (), ()))
        desk = Desk(journal(House(plain(Book(text_of(THREE, (), kinds))))))
        for kind in ("hand", "pen", "eye", "pen"):
            desk.say(f"hire {kind}")
        self.same(desk.say("people"), "hand pen eye pen")

    def test_as_the_house_tells(self):
        rng = random.Random(170)
        for many in (2, 3, 4, 8) * 8:
            book = some_book(rng, many, 0.3, 0.7)
            desk, house = Desk(journal(House(plain(book)))), House(plain(book))
            for _ in range(20):
                could = [(word, person, client) for person in range(len(house)) for word, client in house.can(person)]
                if len(house) < 8 and (not could or rng.random() < 0.3):
                    kind = rng.choice(book.kinds)
                    self.same(desk.say(f"hire {kind}"), str(house.hire(kind)))
                elif could:
                    word, person, client = rng.choice(could)
                    self.same(desk.say(f"{word} {person} {client}"), "ok")
                    getattr(house, word)(person, client)
                self.assertTrue(desk.house == house)
                for person in range(len(house)):
                    for word in ANSWERS:
                        self.same(desk.say(f"{word} {person}"), " ".join(getattr(house, word)(person)) or ".")
                    self.same(desk.say(f"can {person}"), ", ".join(" ".join(deed) for deed in house.can(person)) or ".")
                for client in book.clients:
                    self.same(desk.say(f"papers {client}"), " ".join(house.papers(client)))
                self.same([desk.say("risk"), desk.say("people")], [house.risk()[0], " ".join(house.staff) or "."])

    def test_questions_change_nothing(self):
        self.says("hire hand", "0", "look 0 oil", "ok", "hire hand", "1", "undo", "ok")
        before = journal(self.desk.house)
        for line in ("looked 0", "holds 0", "knows 0", "papers oil", "can 0", "risk", "people"):
            self.desk.say(line)
            self.same(journal(self.desk.house), before)
        self.says("redo", "ok", "people", "hand hand")

    def test_a_desk_of_a_journal_that_goes_on(self):
        self.says("hire hand", "0", "look 0 oil", "ok")
        desk = Desk(journal(self.desk.house))
        self.same([desk.say("undo"), desk.say("undo"), desk.say("people")], ["ok", "ok", "."])
        self.refuses(NothingToUndo, None, desk.say, "undo")
        self.says("people", "hand")


class BadLineTest(DeskChecks):
    def bad(self, *lines):
        for line in lines:
            before = self.desk.house.copy()
            self.keeps(BadLine, line, self.desk.say, line)
            self.assertTrue(self.desk.house == before)

    def test_no_string(self):
        self.desk.say("hire hand")
        self.bad(*[value for value in odd_values() if not isinstance(value, str)], ("risk",), ["risk"], {"risk": 1},
                 self.desk.house, 0)

    def test_no_such_line(self):
        self.desk.say("hire hand")
        self.bad("", " ", ".", "ok", "house", "pair bank mill", "clients oil", "say", "copy", "trial", "keep", "tried",
                 "met", "len",
                 "Risk", "RISK", "risks", "ris", "peoples", "hires hand", "looks oil", "writes oil", "left 0", "fence",
                 "staff", "run", "done")

    def test_words_too_many_or_too_few(self):
        self.desk.say("hire hand")
        self.bad("hire", "hire hand hand", "look", "look 0", "look 0 oil oil", "look oil", "write 0", "write",
                 "write 0 oil 0", "leave", "leave 0 0",
                 "undo 1", "redo 1", "undo undo", "looked", "looked 0 0", "holds", "holds 0 oil", "knows", "knows 0 0",
                 "papers", "papers oil bank",
                 "can", "can 0 look", "risk 0", "people hand")

    def test_blanks(self):
        self.desk.say("hire hand")
        for line in ("hire hand", "look 0 oil", "write 0 oil", "leave 0", "undo", "redo", "looked 0", "holds 0",
                     "knows 0", "papers oil", "can 0",
                     "risk", "people"):
            wider = line.replace(" ", "  ") if " " in line else f"{line}  "
            self.bad(f" {line}", f"{line} ", f"  {line}", f"{line}  ", wider)
        self.bad("look 0  oil", "look  0 oil", "look 0 ", "look  oil", "hire ", "papers ", "leave ", "can ")

    def test_line_feeds(self):
        self.desk.say("hire hand")
        for line in ("hire hand", "look 0 oil", "undo", "redo", "looked 0", "papers oil", "risk", "people"):
            self.bad(f"{line}\n", f"\n{line}", f"{line}\n{line}", line.replace(" ",
                                                                               "\n") + ("" if " " in line else "\n"))
        self.bad("\n", "hire ha\nnd", "papers oil\nbank", "papers \n")

    def test_numbers_not_as_python_writes_them(self):
        self.desk.say("hire hand")
        for number in ("00", "01", "+0", "-0", "0.0", "1e0", "0x0", "0_0", "zero", "oil", "--0", "-", "-00", "0-",
                       "None", "True", "(0)", "0,"):
            self.bad(f"looked {number}", f"holds {number}", f"knows {number}", f"can {number}", f"leave {number}",
                     f"look {number} oil",
                     f"write {number} oil")


class RefusedTest(DeskChecks):
    def test_what_the_house_raises(self):
        kinds = (("hand", THREE, THREE), ("eye", ("oil",), ()))
        self.desk = Desk(journal(House(walls(Book(text_of(THREE, (("oil", "mill"),), kinds))))))
        self.refuses(NothingToUndo, None, self.desk.say, "undo")
        self.refuses(NothingToRedo, None, self.desk.say, "redo")
        self.says("hire hand", "0", "hire eye", "1", "look 0 oil", "ok", "hire hand", "2", "leave 2", "ok")
        before = self.desk.house.copy()
        for error, value, line in (
                (NoKind, "pen", "hire pen"), (NoKind, "0", "hire 0"), (NoKind, "Hand", "hire Hand"),
                (NoPerson, 3, "look 3 oil"),
                (NoPerson, -1, "look -1 oil"), (NoPerson, 10, "write 10 rail"), (Left, 2, "look 2 oil"),
                (Left, 2, "write 2 rail"),
                (Left, 2, "leave 2"), (NoPerson, 3, "leave 3"), (NoClient, "rail", "look 0 rail"),
                (NoClient, "Oil", "write 0 Oil"),
                (NoClient, "0", "look 0 0"), (NoRight, (1, "look", "bank"), "look 1 bank"),
                (NoRight, (1, "write", "oil"), "write 1 oil"),
                (Rival, ("mill", "oil"), "look 0 mill"), (Rival, ("mill", "oil"), "write 0 mill"),
                (Fenced, ("oil", "bank"), "write 0 bank"),
                (NoPerson, 3, "looked 3"), (NoPerson, -5, "holds -5"), (NoPerson, 999999999, "knows 999999999"),
                (NoPerson, 8, "can 8"),
                (NoClient, "rail", "papers rail"), (NoClient, "hand", "papers hand"), (NoClient, "0", "papers 0"),
                (NothingToRedo, None, "redo"),
                (NoClient, "oil,", "papers oil,"), (NoKind, "hire", "hire hire")):
            self.refuses(error, value, self.desk.say, line)
            self.assertTrue(self.desk.house == before)

    def test_full(self):
        for number in range(8):
            self.says("hire hand", str(number))
        self.refuses(Full, 8, self.desk.say, "hire hand")
        for _ in range(40):
            self.says("look 7 oil", "ok")
        self.refuses(Full, 40, self.desk.say, "look 7 oil")
        self.refuses(Full, 40, self.desk.say, "write 0 mill")
        self.says("can 7", ".", "can 0", ".", "undo", "ok", "look 0 mill", "ok")

    def test_a_line_that_is_refused_is_no_step(self):
        self.says("hire hand", "0", "look 0 oil", "ok", "undo", "ok")
        for line in ("look 0 rail", "look 1 oil", "hire pen", "leave 4", "nothing", "look 0  oil"):
            with self.assertRaises(ValueError):
                self.desk.say(line)
        self.says("redo", "ok", "looked 0", "oil")

    def test_of_eight_clients(self):
        desk = Desk(journal(House(plain(Book(text_of(EIGHT, (), (("hand", EIGHT, EIGHT),)))))))
        desk.say("hire hand")
        for client in EIGHT[::-1]:
            desk.say(f"look 0 {client}")
        self.same(desk.say("looked 0"), " ".join(EIGHT))
        self.same(desk.say("can 0"), ", ".join(f"{word} {client}" for word in ("look",
                                                                               "write") for client in sorted(EIGHT)))
        self.assertTrue(read_journal(journal(desk.house)) == desk.house)
