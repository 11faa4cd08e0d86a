"""Point 13: people who come, what they do by a fence, and what the house tells of them."""

import copy
import itertools
import random

from tests.helpers import (
    EIGHT, TEXT, Checks, Model, deep, have_rivals, odd_values, some_book, some_fence, text_of,
)
from wallbooks import houses as module
from wallbooks.books import Book
from wallbooks.errors import (
    Fenced, Full, Left, NoClient, NoKind, NoPerson, NoRight, NothingToRedo, NothingToUndo, Rival,
)
from wallbooks.fences import Fence, bare, plain, walls
from wallbooks.houses import House
from wallbooks.runs import barred, meeting, stand

THREE = ("oil", "bank", "mill")
STEPS = ("hire", "look", "write", "leave", "undo", "redo")
METHODS = """hire look write leave looked holds knows papers can met risk shows_risk undo redo trial keep tried
copy""".split()


def led(fence, *steps):
    """A house on which these steps were done."""
    house = House(fence)
    for word, *rest in steps:
        getattr(house, word)(*rest)
    return house


def not_numbers(people):
    """Odd values, none of which is the number of one of so many people; also Booleans and numbers out of range."""
    found = [value for value in odd_values() if type(value) is not int]
    return found + [-1, -people, people, people + 1, 999999999, -999999999, True, False, "0", (0,), [0], {0: 0}, "",
                    None]


class HouseChecks(Checks):
    def follows(self, house, model, name, *args):
        """A call does, or is refused, as the model tells."""
        wrong = model.wrong(name, *args)
        if wrong:
            self.refused(wrong, getattr(house, name), *args)
        else:
            told = getattr(house, name)(*args)
            self.same(told, model.do(name, *args))
        return wrong


class InterfaceTest(HouseChecks):
    def test_the_class_is_defined_in_the_file_and_has_its_methods(self):
        self.assertEqual(House.__module__, "wallbooks.houses")
        for name in [*METHODS, "__len__", "__getitem__", "__eq__"]:
            self.assertIn(name, vars(House))
        self.assertIs(vars(module)["House"], House)

    def test_a_new_house(self):
        fence = walls(Book(TEXT))
        house = House(fence=fence)
        self.same([house.staff, house.run, house.done, len(house), house.met()], [(), (), 0, 0, None])
        self.assertIs(house.fence, fence)
        self.assertTrue({"fence", "staff", "run", "done"} <= set(vars(house)))
        self.same([house.papers(client) for client in THREE], [("oil",), ("bank",), ("mill",)])

    def test_by_name(self):
        house = House(fence=plain(Book(TEXT)))
        self.same(house.hire(kind="hand"), 0)
        self.same(house.look(client="oil", person=0), None)
        self.same(house.write(client="bank", person=0), None)
        self.same([house.looked(person=0), house.holds(person=0), house.knows(person=0), house.papers(client="bank")],
                  [("oil",), ("oil", "bank"), ("oil",), ("oil", "bank")])
        self.same(house.can(person=0), house.can(0))
        self.assertIs(house.shows_risk(value=house.risk()), True)
        self.same(house.tried(look=len, keep=True), 1)
        self.same(house.leave(person=0), None)

    def test_what_steps_return(self):
        house = House(plain(Book(TEXT)))
        self.same([house.hire("hand"), house.hire("hand"), house.look(1, "oil"), house.write(1, "oil"), house.leave(0),
                   house.undo(), house.redo(), house.undo(), house.hire("hand")],
                  [0, 1, None, None, None, None, None, None, 2])

    def test_what_is_handed_in_and_equal_calls(self):
        fence = plain(Book(TEXT))
        house = led(fence, ("hire", "hand"), ("look", 0, "oil"))
        value = [["met", 0], {"a": [house]}]
        self.assertIs(house.shows_risk(value), False)
        self.same(value, [["met", 0], {"a": [house]}])
        for call in (house.can, house.looked, house.holds, house.knows):
            self.same(call(0), call(0))
        self.same([house.risk(), house.met(), house.papers("oil")], [house.risk(), house.met(), house.papers("oil")])
        self.assertEqual(fence, plain(Book(TEXT)))


class LedTest(HouseChecks):
    def test_by_plain(self):
        house = led(plain(Book(TEXT)), ("hire", "hand"), ("hire", "hand"), ("look", 0, "oil"), ("write", 0, "bank"),
                    ("look", 1, "mill"), ("look", 1, "bank"))
        self.same([house.staff, house.run, house.done, len(house)], [
            ("hand", "hand"), ((0, "look", "oil"), (0, "write", "bank"), (1, "look", "mill"), (1, "look", "bank")), 6,
            2])
        self.same([house.looked(0), house.holds(0), house.knows(0)], [("oil",), ("oil", "bank"), ("oil",)])
        self.same([house.looked(1), house.holds(1), house.knows(1)], [("bank", "mill"), ("bank", "mill"), THREE])
        self.same([house.papers(client) for client in THREE], [("oil",), ("oil", "bank"), ("mill",)])
        self.same(house.met(), 3)

    def test_as_runs_tell(self):
        rng = random.Random(130)
        for many in (2, 3, 4, 5, 8) * 8:
            book = some_book(rng, many, rng.choice((0.2, 0.5)), rng.choice((0.4, 0.8)))
            fence = rng.choice((plain, walls, bare))(book) if rng.random() < 0.7 else some_fence(rng, book)
            house = House(fence)
            for _ in range(rng.choice((1, 2, 4))):
                house.hire(rng.choice(book.kinds))
            for _ in range(12):
                person = rng.randrange(len(house))
                could = house.can(person)
                if could:
                    word, client = rng.choice(could)
                    getattr(house, word)(person, client)
            people, papers = stand(book, house.staff, house.run)
            self.same([(house.looked(person), house.holds(person),
                        house.knows(person)) for person in range(len(house))],
                      list(people))
            self.same([house.papers(client) for client in book.clients], list(papers))
            self.same([house.met(), barred(fence, house.staff, house.run)],
                      [meeting(book, house.staff, house.run), None])

    def test_can_is_what_is_not_refused(self):
        rng = random.Random(131)
        for many in (2, 3, 4) * 8:
            book = some_book(rng, many, 0.4, 0.7)
            house = House(some_fence(rng, book, 0.6))
            for _ in range(3):
                house.hire(rng.choice(book.kinds))
            for _ in range(5):
                for person in range(3):
                    could = house.can(person)
                    for word, client in itertools.product(("look", "write"), book.clients):
                        twin = house.copy()
                        if (word, client) in could:
                            self.same(getattr(twin, word)(person, client), None)
                            self.same([twin.done, twin.run[-1]], [house.done + 1, (person, word, client)])
                        else:
                            with self.assertRaises((NoRight, Rival, Fenced)):
                                getattr(twin, word)(person, client)
                    self.same(could, tuple(sorted(set(could))))
                if house.can(0):
                    getattr(house, house.can(0)[0][0])(0, house.can(0)[0][1])

    def test_against_the_model(self):
        """Any calls, right and wrong, against the words of point 13."""
        rng = random.Random(132)
        refused = {}
        for many in (2, 3, 3, 4, 5) * 12:
            book = some_book(rng, many, rng.choice((0.3, 0.6)), rng.choice((0.6, 0.9)))
            fence = rng.choice((plain(book), walls(book), some_fence(rng, book, 0.7)))
            house, model = House(fence), Model(fence)
            for _ in range(rng.choice((0, 1, 2, 7))):
                self.follows(house, model, "hire", rng.choice(book.kinds))
            for _ in range(40):
                name = rng.choice((*STEPS, "look", "write", "look", "write"))
                person = rng.choice((*range(len(house) + 1), *range(len(house)), -1))
                client = rng.choice((*book.clients, *book.clients, "nobody"))
                args = {"hire": (rng.choice((*book.kinds, "none")),), "leave": (person,), "look": (person, client),
                        "write": (person, client)}.get(name, ())
                wrong = self.follows(house, model, name, *args)
                if wrong:
                    refused[wrong[0]] = refused.get(wrong[0], 0) + 1
                if rng.random() < 0.3:
                    self.stands(house, model)
            self.stands(house, model)
        for error in (NoKind, NoPerson, Left, NoClient, NoRight, Rival, Fenced, Full, NothingToRedo, NothingToUndo):
            self.assertGreater(refused[error], 2, error)

    def test_houses_by_each_fence(self):
        book = Book(TEXT)
        for fence, could in ((plain(book), (("look", "bank"), ("look", "oil"), ("write", "bank"), ("write", "oil"))),
                             (walls(book), (("look", "bank"), ("look", "oil"), ("write", "oil"))),
                             (bare(book), (("look", "bank"), ("look", "oil"), ("write", "oil"))),
                             (Fence(book, (("oil", "bank"),)), (("look", "bank"), ("look", "oil"), ("write", "bank"),
                                                                ("write", "oil")))):
            self.same(led(fence, ("hire", "hand"), ("look", 0, "oil")).can(0), could)

    def test_can_ascends(self):
        book = Book(text_of(("z", "a", "m"), (), (("hand", ("z", "a"), ("z", "m")),)))
        self.same(led(plain(book), ("hire", "hand")).can(0), (("look", "a"), ("look", "z"), ("write", "m"),
                                                              ("write", "z")))

    def test_people_without_rights(self):
        house = led(plain(Book(text_of(THREE))), ("hire", "hand"))
        self.same([house.can(0), house.looked(0), house.holds(0), house.knows(0)], [()] * 4)


class LeaveTest(HouseChecks):
    def test_who_has_left(self):
        house = led(plain(Book(TEXT)), ("hire", "hand"), ("look", 0, "oil"), ("write", 0, "bank"), ("leave", 0))
        self.same([house.can(0), house.staff, len(house), house[0], house.done], [(), ("hand",), 1, "hand", 4])
        self.same([house.looked(0), house.holds(0), house.knows(0), house.papers("bank")],
                  [("oil",), ("oil", "bank"), ("oil",), ("oil", "bank")])
        self.keeps(Left, 0, house.look, 0, "oil")
        self.keeps(Left, 0, house.write, 0, "oil")
        self.keeps(Left, 0, house.leave, 0)
        self.same([house.hire("hand"), house.staff, house.look(1, "bank"), house.knows(1)],
                  [1, ("hand", "hand"), None, ("oil", "bank")])

    def test_numbers_stay(self):
        house = led(plain(Book(TEXT)), ("hire", "hand"), ("hire", "hand"), ("hire", "hand"), ("leave", 1),
                    ("look", 2, "oil"))
        self.same([house.can(1), house.knows(2), len(house.can(0))], [(), ("oil",), 6])
        house.leave(0)
        self.same([house.can(0), len(house.can(2)), house.run], [(), 4, ((2, "look", "oil"),)])

    def test_leaving_is_taken_back(self):
        house = led(plain(Book(TEXT)), ("hire", "hand"), ("leave", 0), ("undo",))
        self.same(len(house.can(0)), 6)
        house.redo()
        self.same(house.can(0), ())


class LimitsTest(HouseChecks):
    def test_eight_people(self):
        house = House(plain(Book(TEXT)))
        self.same([house.hire("hand") for _ in range(8)], list(range(8)))
        self.refuses(Full, 8, house.hire, "hand")
        house.leave(3)
        self.refuses(Full, 8, house.hire, "hand")
        self.keeps(NoKind, "oil", house.hire, "oil")
        self.same([len(house), house.done], [8, 9])
        house.undo()
        house.undo()
        self.same(house.hire("hand"), 7)

    def test_forty_deeds(self):
        house = led(plain(Book(TEXT)), ("hire", "hand"), ("hire", "hand"))
        for at in range(40):
            self.assertNotEqual(house.can(0), ())
            (house.look if at % 2 else house.write)(0, "oil")
        self.same([house.can(0), house.can(1), house.done, len(house.run)], [(), (), 42, 40])
        for call in (house.look, house.write):
            self.refuses(Full, 40, call, 0, "oil")
            self.refuses(Full, 40, call, 1, "mill")
            self.refuses(Rival, ("mill", "oil"), call, 0, "mill")
        self.same([house.hire("hand"), house.leave(0)], [2, None])
        self.keeps(Left, 0, house.look, 0, "oil")
        house.undo()
        house.undo()
        house.undo()
        self.same([len(house.can(0)), house.look(1, "mill"), len(house.run)], [4, None, 40])

    def test_full_comes_behind_all_else(self):
        book = Book(text_of(THREE, (("oil", "mill"),), (("hand", THREE, ("oil", "bank")),)))
        house = led(walls(book), ("hire", "hand"), *[("look", 0, "oil")] * 40)
        self.refuses(Fenced, ("oil", "bank"), house.write, 0, "bank")
        self.refuses(NoRight, (0, "write", "mill"), house.write, 0, "mill")
        self.refuses(Rival, ("mill", "oil"), house.look, 0, "mill")
        self.refuses(Full, 40, house.write, 0, "oil")

    def test_nobody_there(self):
        house = House(plain(Book(TEXT)))
        for call in (house.look, house.write):
            self.refuses(NoPerson, 0, call, 0, "oil")
        for call in (house.leave, house.looked, house.holds, house.knows, house.can, lambda person: house[person]):
            self.refuses(NoPerson, 0, call, 0)


class ErrorsTest(HouseChecks):
    def house(self):
        kinds = (("hand", THREE, THREE), ("eye", ("oil", "bank"), ("bank",)))
        return led(walls(Book(text_of(THREE, (("oil", "mill"),), kinds))), ("hire", "hand"), ("hire", "eye"),
                   ("look", 0, "oil"),
                   ("hire", "hand"), ("leave", 2))

    def nothing_changes(self, house, call, *args):
        kept = copy.deepcopy(vars(house))
        with self.assertRaises(ValueError):
            call(*args)
        self.same({name: value for name, value in vars(house).items()}, kept)

    def test_no_kind(self):
        house = self.house()
        for value in [*odd_values(), "Hand", "oil", ("hand",), ["hand"], "hand ", "hire"]:
            self.keeps(NoKind, value, house.hire, value)
            self.nothing_changes(house, house.hire, value)

    def test_no_person(self):
        house = self.house()
        for value in not_numbers(3):
            for call in (house.leave, house.looked, house.holds, house.knows, house.can, lambda person: house[person]):
                self.keeps(NoPerson, value, call, value)
            for call in (house.look, house.write):
                for client in ("oil", "mill", "rail", None, value):
                    self.keeps(NoPerson, value, call, value, client)
            self.nothing_changes(house, house.look, value, "oil")

    def test_no_client(self):
        house = self.house()
        for value in odd_values():
            self.keeps(NoClient, value, house.papers, value)
            for call in (house.look, house.write):
                self.keeps(NoClient, value, call, 0, value)
                self.keeps(NoClient, value, call, 1, value)
                self.refuses(Left, 2, call, 2, value)
            self.nothing_changes(house, house.write, 0, value)

    def test_no_right(self):
        house = self.house()
        self.refuses(NoRight, (1, "look", "mill"), house.look, 1, "mill")
        self.refuses(NoRight, (1, "write", "mill"), house.write, 1, "mill")
        self.refuses(NoRight, (1, "write", "oil"), house.write, 1, "oil")
        house.look(1, "oil")
        self.refuses(NoRight, (1, "look", "mill"), house.look, 1, "mill")
        self.refuses(Fenced, ("oil", "bank"), house.write, 1, "bank")
        self.nothing_changes(house, house.look, 1, "mill")

    def test_rival(self):
        house = self.house()
        for call in (house.look, house.write):
            self.refuses(Rival, ("mill", "oil"), call, 0, "mill")
            self.nothing_changes(house, call, 0, "mill")
        house = led(bare(Book(TEXT)), ("hire", "hand"), ("write", 0, "mill"))
        self.refuses(Rival, ("oil", "mill"), house.look, 0, "oil")
        self.refuses(Rival, ("oil", "mill"), house.write, 0, "oil")

    def test_the_first_rival_in_sequence(self):
        clients = ("z", "m", "a", "x")
        book = Book(text_of(clients, (("x", "a"), ("m", "x"), ("z", "x")), (("hand", clients, clients),)))
        house = led(plain(book), ("hire", "hand"), ("look", 0, "a"), ("write", 0, "m"))
        self.refuses(Rival, ("x", "m"), house.look, 0, "x")
        house.write(0, "z")
        self.refuses(Rival, ("x", "z"), house.look, 0, "x")
        self.refuses(Rival, ("x", "z"), house.write, 0, "x")

    def test_fenced(self):
        house = self.house()
        self.refuses(Fenced, ("oil", "bank"), house.write, 0, "bank")
        self.nothing_changes(house, house.write, 0, "bank")
        house.write(0, "oil")
        house.look(0, "bank")
        self.refuses(Fenced, ("oil", "bank"), house.write, 0, "bank")
        house.write(0, "oil")

    def test_the_first_that_is_fenced_in_sequence(self):
        clients = ("z", "m", "a", "x")
        book = Book(text_of(clients, (), (("hand", clients, clients),)))
        house = led(Fence(book, (("z", "x"),)), ("hire", "hand"), ("write", 0, "m"), ("look", 0, "x"), ("look", 0, "z"))
        house.write(0, "x")
        house.look(0, "a")
        self.refuses(Fenced, ("a", "x"), house.write, 0, "x")
        house.look(0, "m")
        self.refuses(Fenced, ("m", "x"), house.write, 0, "x")
        self.refuses(Fenced, ("z", "m"), house.write, 0, "m")
        self.refuses(Fenced, ("m", "z"), house.write, 0, "z")

    def test_what_is_only_written_for_fences_nothing(self):
        book = Book(text_of(THREE, (), (("hand", THREE, THREE),)))
        house = led(bare(book), ("hire", "hand"), ("write", 0, "oil"), ("write", 0, "bank"), ("write", 0, "mill"))
        self.same(house.holds(0), THREE)
        house.look(0, "oil")
        self.refuses(Fenced, ("oil", "mill"), house.write, 0, "mill")

    def test_a_rival_comes_ahead_of_the_fence(self):
        book = Book(TEXT)
        house = led(bare(book), ("hire", "hand"), ("look", 0, "bank"), ("write", 0, "bank"), ("look", 0, "oil"))
        self.refuses(Rival, ("mill", "oil"), house.write, 0, "mill")
        self.refuses(Fenced, ("bank", "oil"), house.write, 0, "oil")

    def test_left(self):
        house = self.house()
        self.keeps(Left, 2, house.leave, 2)
        for client in ("oil", "rail", None):
            self.keeps(Left, 2, house.look, 2, client)
            self.keeps(Left, 2, house.write, 2, client)
        self.nothing_changes(house, house.leave, 2)
        self.same([house.looked(2), house.holds(2), house.knows(2), house.can(2), house[2]], [(), (), (), (), "hand"])

    def test_a_house_is_refused_where_it_stands_for_a_value(self):
        house = self.house()
        self.keeps(NoPerson, house, house.can, house)
        self.keeps(NoClient, house, house.papers, house)
        self.keeps(NoKind, house, house.hire, house)

    def test_deep_values(self):
        house = self.house()
        for value in (deep(house, 30), deep(0, 30), deep("hand", 30), deep("oil", 30)):
            self.keeps(NoPerson, value, house.can, value)
            self.keeps(NoClient, value, house.papers, value)
            self.keeps(NoKind, value, house.hire, value)


class UndoTest(HouseChecks):
    def test_at_their_ends(self):
        house = House(plain(Book(TEXT)))
        self.refuses(NothingToUndo, None, house.undo)
        self.refuses(NothingToRedo, None, house.redo)
        house.hire("hand")
        self.refuses(NothingToRedo, None, house.redo)
        house.undo()
        self.refuses(NothingToUndo, None, house.undo)
        self.same([house.staff, house.done], [(), 0])
        house.redo()
        self.refuses(NothingToRedo, None, house.redo)
        self.same([house.staff, house.done], [("hand",), 1])

    def test_all_the_way_back_and_forth(self):
        rng = random.Random(133)
        steps = [("hire", "hand"), ("look", 0, "oil"), ("hire", "hand"), ("write", 0, "bank"), ("look", 1, "mill"),
                 ("leave", 0),
                 ("look", 1, "bank")]
        fence = plain(Book(TEXT))
        house, at = led(fence, *steps), len(steps)
        for _ in range(150):
            word = rng.choice(("undo", "redo"))
            if word == "undo" and at or word == "redo" and at < len(steps):
                getattr(house, word)()
                at += 1 if word == "redo" else -1
            else:
                self.refuses(NothingToUndo if word == "undo" else NothingToRedo, None, getattr(house, word))
            model = Model(fence)
            for step in steps[:at]:
                model.do(*step)
            self.stands(house, model)
            self.assertTrue(house == led(fence, *steps[:at]))

    def test_a_refused_step_is_none(self):
        house = led(walls(Book(TEXT)), ("hire", "hand"), ("look", 0, "oil"), ("undo",))
        for call, *args in ((house.hire, "none"), (house.look, 1, "oil"), (house.look, 0, "rail"), (house.leave, 5),
                            (house.write, 0, 1)):
            with self.assertRaises(ValueError):
                call(*args)
        house.redo()
        self.same(house.run, ((0, "look", "oil"),))
        for call, *args in ((house.write, 0, "bank"), (house.look, 0, "mill")):
            with self.assertRaises(ValueError):
                call(*args)
        house.undo()
        self.same([house.run, house.staff], [(), ("hand",)])

    def test_another_step_ends_redo(self):
        for step in (("hire", "hand"), ("look", 0, "oil"), ("write", 0, "mill"), ("leave", 0)):
            house = led(plain(Book(TEXT)), ("hire", "hand"), ("look", 0, "oil"), ("look", 0, "bank"), ("undo",),
                        ("undo",), step)
            self.refuses(NothingToRedo, None, house.redo)
            self.same(house.done, 2)
            house.undo()
            house.redo()
            self.refuses(NothingToRedo, None, house.redo)
            self.same(house.done, 2)

    def test_what_was_asked_ends_nothing(self):
        house = led(plain(Book(TEXT)), ("hire", "hand"), ("look", 0, "oil"), ("undo",))
        for call in (house.can, house.looked, house.holds, house.knows):
            call(0)
        house.risk()
        house.met()
        house.copy()
        house.shows_risk(None)
        house.redo()
        self.same(house.done, 2)

    def test_a_person_that_is_taken_back(self):
        house = led(plain(Book(TEXT)), ("hire", "hand"), ("hire", "hand"), ("undo",))
        self.refuses(NoPerson, 1, house.look, 1, "oil")
        house.redo()
        self.same([house.look(1, "oil"), house.undo(), house.undo(), house.hire("hand"), house.knows(1)],
                  [None, None, None, 1, ()])


class EqualTest(HouseChecks):
    def test_steps_and_fences(self):
        book = Book(TEXT)
        steps = (("hire", "hand"), ("look", 0, "oil"), ("hire", "hand"), ("leave", 1))
        house = led(plain(book), *steps)
        self.assertTrue(house == led(plain(Book(TEXT)), *steps) and not house != led(plain(book), *steps))
        self.assertTrue(house == house)
        for other in (led(walls(book), *steps), led(plain(book), *steps[:-1]),
                      led(plain(book), *steps, ("hire", "hand")),
                      led(plain(Book(TEXT.replace("mill", "rail"))), *steps), House(plain(book))):
            self.assertTrue(house != other and not house == other)

    def test_unlike_steps_that_look_alike(self):
        book = Book(TEXT)
        elder = led(plain(book), ("hire", "hand"), ("hire", "hand"), ("look", 0, "oil"))
        newer = led(plain(book), ("hire", "hand"), ("look", 0, "oil"), ("hire", "hand"))
        self.same([elder.staff, elder.run, elder.done], [newer.staff, newer.run, newer.done])
        self.assertTrue(elder != newer)
        one = led(plain(book), ("hire", "hand"), ("hire", "hand"), ("leave", 0), ("leave", 1))
        other = led(plain(book), ("hire", "hand"), ("hire", "hand"), ("leave", 1), ("leave", 0))
        self.assertTrue(one != other)
        early = led(plain(book), ("hire", "hand"), ("hire", "hand"), ("leave", 1), ("look", 0, "oil"))
        late = led(plain(book), ("hire", "hand"), ("hire", "hand"), ("look", 0, "oil"), ("leave", 1))
        self.assertTrue(early != late)

    def test_what_can_be_done_again_does_not_count(self):
        book = Book(TEXT)
        self.assertTrue(led(plain(book), ("hire", "hand"), ("hire", "hand"), ("undo",)) == led(plain(book),
                                                                                               ("hire", "hand")))
        self.assertTrue(led(plain(book), ("hire", "hand"), ("undo",)) == House(plain(book)))

    def test_nothing_else(self):
        house = House(plain(Book(TEXT)))
        for value in [*odd_values(), (), house.fence, house.fence.book, house.staff, deep(house, 1)]:
            if not isinstance(value, House):
                self.assertTrue(house != value and value != house and not house == value)
        self.assertTrue(house == House(plain(Book(TEXT))))

    def test_copies(self):
        book = Book(TEXT)
        house = led(plain(book), ("hire", "hand"), ("look", 0, "oil"), ("hire", "hand"), ("undo",))
        twin = house.copy()
        self.assertTrue(twin == house and twin is not house and isinstance(twin, House))
        twin.redo()
        self.same([len(twin), len(house)], [2, 1])
        twin.undo()
        twin.undo()
        self.same([twin.done, house.done, house.run], [1, 2, ((0, "look", "oil"),)])
        house.redo()
        self.refuses(NothingToRedo, None, house.redo)
        twin.redo()
        twin.redo()
        self.assertTrue(twin == house)
        house.look(1, "mill")
        self.same([twin.knows(1), house.knows(1)], [(), ("mill",)])
        again = house.copy()
        self.refuses(NothingToRedo, None, again.redo)
        for _ in range(house.done):
            again.undo()
        self.refuses(NothingToUndo, None, again.undo)

    def test_of_many_people_and_clients(self):
        book = Book(text_of(EIGHT, (EIGHT[:2],), (("hand", EIGHT, EIGHT),)))
        house = led(walls(book), *[("hire", "hand")] * 8, *[("look", person, EIGHT[person]) for person in range(8)])
        model = Model(walls(book))
        for step in [("hire", "hand")] * 8 + [("look", person, EIGHT[person]) for person in range(8)]:
            model.do(*step)
        self.stands(house, model)
        self.assertFalse(have_rivals(book, house.holds(0)))
