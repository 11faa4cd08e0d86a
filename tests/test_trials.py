"""Point 13: blocks in which steps are tried, kept or not."""

import random

from tests.helpers import TEXT, Checks, deep, odd_values, some_book
from wallbooks.books import Book
from wallbooks.errors import NoKind, NothingToRedo, NothingToUndo, NoTrial, Rival, WallError
from wallbooks.fences import plain, walls
from wallbooks.houses import House


def looks_of(house):
    """All that can be seen of a house, and what can be undone and done again, without changing it."""
    told = [house.fence, house.staff, house.run, house.done, len(house), house.met(), house.risk()]
    told += [[house[at], house.looked(at), house.holds(at), house.knows(at), house.can(at)] for at in range(len(house))]
    told += [house.papers(client) for client in house.fence.book.clients]
    for word, error in (("undo", NothingToUndo), ("redo", NothingToRedo)):
        twin = house.copy()
        while True:
            try:
                getattr(twin, word)()
            except error:
                break
            told.append((word, twin.staff, twin.run, twin.done, [twin.can(at) for at in range(len(twin))]))
    return told


class Stop(Exception):
    """An error that the package does not know."""


class TrialChecks(Checks):
    def setUp(self):
        self.house = House(plain(Book(TEXT)))
        self.house.hire("hand")
        self.house.look(0, "oil")
        self.house.hire("hand")
        self.house.undo()

    def as_before(self, before, house=None):
        self.same(looks_of(self.house if house is None else house), before)


class TrialTest(TrialChecks):
    def test_held_is_the_house_itself(self):
        with self.house.trial() as held:
            self.assertIs(held, self.house)
            with self.house.trial() as again:
                self.assertIs(again, self.house)
        with self.house.trial():
            self.house.hire("hand")
        self.same(len(self.house), 1)

    def test_not_kept(self):
        before, twin = looks_of(self.house), self.house.copy()
        for steps in ((("hire", "hand"),), (("redo",),), (("undo",),), (("undo",), ("undo",)), (("look", 0, "bank"),),
                      (("write", 0, "bank"), ("leave", 0)), (("undo",), ("undo",), ("hire", "hand"),
                                                             ("look", 0, "mill")), ()):
            with self.house.trial() as held:
                for word, *rest in steps:
                    getattr(held, word)(*rest)
                self.same(held.done, len(held.steps))
            self.as_before(before)
            self.assertTrue(self.house == twin)
        self.house.redo()
        self.same(self.house.staff, ("hand", "hand"))

    def test_kept(self):
        with self.house.trial() as held:
            held.look(0, "bank")
            self.same(held.keep(), None)
            held.write(0, "bank")
        self.same(self.house.run, ((0, "look", "oil"), (0, "look", "bank"), (0, "write", "bank")))
        self.refuses(NothingToRedo, None, self.house.redo)
        self.house.undo()
        self.house.undo()
        self.same(self.house.run, ((0, "look", "oil"),))

    def test_kept_undo_and_redo(self):
        with self.house.trial() as held:
            held.keep()
            held.undo()
        self.same([self.house.run, self.house.staff], [(), ("hand",)])
        self.house.redo()
        self.house.redo()
        self.same([self.house.run, self.house.staff], [((0, "look", "oil"),), ("hand", "hand")])

    def test_kept_twice_is_kept(self):
        with self.house.trial() as held:
            held.keep()
            held.keep()
            held.look(0, "bank")
        self.same(len(self.house.run), 2)

    def test_left_by_an_error(self):
        before = looks_of(self.house)
        for error in (Stop, ValueError, KeyError, KeyboardInterrupt):
            for kept in (False, True):
                with self.assertRaises(error):
                    with self.house.trial() as held:
                        held.look(0, "bank")
                        if kept:
                            held.keep()
                        raise error("told")
                self.as_before(before)
                self.refuses(NoTrial, None, self.house.keep)

    def test_left_by_an_error_of_the_house(self):
        before = looks_of(self.house)
        with self.assertRaises(Rival) as caught:
            with self.house.trial() as held:
                held.keep()
                held.hire("hand")
                held.look(0, "mill")
        self.same(caught.exception.value, ("mill", "oil"))
        self.as_before(before)

    def test_an_error_that_is_caught_within_leaves_nothing(self):
        with self.house.trial() as held:
            held.keep()
            self.refuses(Rival, ("mill", "oil"), held.look, 0, "mill")
            self.refuses(NoKind, "none", held.hire, "none")
            held.look(0, "bank")
        self.same(self.house.run, ((0, "look", "oil"), (0, "look", "bank")))

    def test_keep_outside_of_all_blocks(self):
        self.refuses(NoTrial, None, self.house.keep)
        with self.house.trial() as held:
            held.keep()
        self.refuses(NoTrial, None, self.house.keep)
        with self.house.trial():
            pass
        self.refuses(NoTrial, None, self.house.keep)
        block = self.house.trial()
        self.refuses(NoTrial, None, self.house.keep)
        with block:
            self.house.keep()
        self.refuses(NoTrial, None, self.house.keep)

    def test_left_by_return_break_and_continue(self):
        before = looks_of(self.house)

        def left():
            with self.house.trial() as held:
                held.look(0, "bank")
                return held.done

        self.same(left(), 3)
        self.as_before(before)
        for word in ("break", "continue"):
            for _ in range(2):
                with self.house.trial() as held:
                    held.look(0, "bank")
                    if word == "break":
                        break
                    continue
            self.as_before(before)

    def test_as_it_was_when_it_was_entered(self):
        block = self.house.trial()
        self.house.look(0, "bank")
        before = looks_of(self.house)
        with block as held:
            held.undo()
            held.undo()
        self.as_before(before)


class NestedTest(TrialChecks):
    def test_trials_in_trials(self):
        """All ways to keep three blocks, each in the next one, with steps ahead of and behind the inner ones."""
        for kept in [(a, b, c) for a in (False, True) for b in (False, True) for c in (False, True)]:
            house = self.house.copy()
            with house.trial():
                house.look(0, "bank")
                with house.trial():
                    house.look(0, "oil")
                    with house.trial():
                        house.write(0, "oil")
                        if kept[2]:
                            house.keep()
                    if kept[1]:
                        house.keep()
                    house.write(0, "bank")
                house.hire("hand")
                if kept[0]:
                    house.keep()
            inner = [(0, "write", "oil")] if kept[2] else []
            middle = [(0, "look", "oil"), *inner, (0, "write", "bank")] if kept[1] else []
            outer = [(0, "look", "bank"), *middle] if kept[0] else []
            self.same(house.run, ((0, "look", "oil"), *outer))
            self.same(len(house), 2 if kept[0] else 1)
            self.refuses(NoTrial, None, house.keep)

    def test_keep_belongs_to_the_innermost_block(self):
        before = looks_of(self.house)
        with self.house.trial():
            with self.house.trial():
                self.house.look(0, "bank")
                self.house.keep()
            self.same(len(self.house.run), 2)
        self.as_before(before)
        with self.house.trial():
            self.house.keep()
            with self.house.trial():
                self.house.look(0, "bank")
            self.as_before(before)
            self.house.look(0, "oil")
        self.same(self.house.run, ((0, "look", "oil"), (0, "look", "oil")))

    def test_an_error_that_leaves_the_inner_block_alone(self):
        with self.house.trial() as held:
            held.keep()
            held.look(0, "bank")
            with self.assertRaises(Stop):
                with held.trial():
                    held.keep()
                    held.look(0, "oil")
                    raise Stop
            held.write(0, "bank")
        self.same(self.house.run[1:], ((0, "look", "bank"), (0, "write", "bank")))

    def test_an_error_that_leaves_both(self):
        before = looks_of(self.house)
        with self.assertRaises(Stop):
            with self.house.trial() as held:
                held.keep()
                held.look(0, "bank")
                with held.trial():
                    held.keep()
                    held.look(0, "oil")
                    raise Stop
        self.as_before(before)
        self.refuses(NoTrial, None, self.house.keep)

    def test_one_block_behind_another_one(self):
        with self.house.trial() as held:
            held.look(0, "bank")
            held.keep()
        with self.house.trial() as held:
            held.look(0, "bank")
        self.same(len(self.house.run), 2)

    def test_blocks_of_two_houses(self):
        other = self.house.copy()
        with self.house.trial(), other.trial():
            self.house.look(0, "bank")
            other.hire("hand")
            other.keep()
        self.same([len(self.house.run), len(other)], [1, 2])

    def test_two_blocks_that_were_made_at_once(self):
        first, second = self.house.trial(), self.house.trial()
        with second:
            self.house.look(0, "bank")
            with first:
                self.house.look(0, "oil")
                self.house.keep()
            self.same(len(self.house.run), 3)
        self.same(len(self.house.run), 1)

    def test_many_blocks(self):
        rng = random.Random(140)
        for _ in range(30):
            book = some_book(rng, 4, 0.2, 0.8)
            house = House(plain(book))
            house.hire(book.kinds[0])
            self.lead(rng, house, 4)

    def lead(self, rng, house, depth):
        """Some steps, and blocks within which the same is done; each leaves the house as it has to be."""
        for _ in range(3):
            could = [(word, person, client) for person in range(len(house)) for word, client in house.can(person)]
            if could and rng.random() < 0.6:
                word, person, client = rng.choice(could)
                getattr(house, word)(person, client)
            elif rng.random() < 0.5 and house.done:
                house.undo()
        if depth:
            before, kept = looks_of(house), rng.random() < 0.5
            with house.trial() as held:
                self.lead(rng, held, depth - 1)
                inside = looks_of(house)
                if kept:
                    held.keep()
            self.as_before(inside if kept else before, house)


class CopiesTest(TrialChecks):
    def test_a_copy_is_outside_of_all_blocks(self):
        with self.house.trial() as held:
            held.look(0, "bank")
            twin = held.copy()
            self.refuses(NoTrial, None, twin.keep)
            held.look(0, "oil")
        self.refuses(NoTrial, None, twin.keep)
        self.same([len(self.house.run), twin.run], [1, ((0, "look", "oil"), (0, "look", "bank"))])
        twin.undo()
        self.assertTrue(twin == self.house)
        twin.undo()
        twin.redo()
        twin.redo()
        self.same(twin.run, ((0, "look", "oil"), (0, "look", "bank")))

    def test_a_block_of_a_copy_does_not_touch_the_house(self):
        with self.house.trial() as held:
            twin = held.copy()
            with twin.trial():
                twin.look(0, "bank")
                self.house.keep()
                self.house.write(0, "oil")
            self.same([len(twin.run), len(self.house.run)], [1, 2])
        self.same(len(self.house.run), 2)

    def test_a_copy_ahead_of_a_block(self):
        twin = self.house.copy()
        with self.house.trial():
            twin.look(0, "bank")
            self.house.undo()
        self.same([len(twin.run), len(self.house.run)], [2, 1])

    def test_a_copy_keeps_what_can_be_done_again(self):
        with self.house.trial() as held:
            held.undo()
            twin = held.copy()
        twin.redo()
        twin.redo()
        self.same([twin.staff, twin.run], [("hand", "hand"), ((0, "look", "oil"),)])


class TriedTest(TrialChecks):
    def test_it_returns_what_look_returned(self):
        value = [1, {"a": self.house}]
        self.assertIs(self.house.tried(lambda house: value), value)
        self.assertIs(self.house.tried(lambda house: house), self.house)
        self.same(self.house.tried(lambda house: None), None)
        self.same(self.house.tried(lambda house: house.hire("hand"), keep=True), 1)

    def test_it_is_called_once_with_the_house(self):
        calls = []
        self.house.tried(calls.append)
        self.house.tried(calls.append, keep=True)
        self.assertTrue(len(calls) == 2 and all(held is self.house for held in calls))

    def test_not_kept(self):
        before = looks_of(self.house)
        told = self.house.tried(lambda house: [house.look(0, "bank"), house.hire("hand"), house.run])
        self.same(told, [None, 1, ((0, "look", "oil"), (0, "look", "bank"))])
        self.as_before(before)
        self.house.tried(lambda house: house.redo(), keep=False)
        self.as_before(before)

    def test_kept(self):
        self.house.tried(lambda house: house.look(0, "bank"), keep=True)
        self.same(self.house.run, ((0, "look", "oil"), (0, "look", "bank")))
        self.refuses(NothingToRedo, None, self.house.redo)
        self.house.tried(lambda house: house.undo(), keep=True)
        self.same(len(self.house.run), 1)
        self.refuses(NoTrial, None, self.house.keep)

    def test_kept_for_no_other_value(self):
        before = looks_of(self.house)
        for value in [*odd_values(), 1, 2, "True", "keep", (True,), [True], {True: True}, self.house, deep(True, 30)]:
            if value is not True:
                self.same(self.house.tried(lambda house: house.look(0, "bank"), keep=value), None)
                self.as_before(before)

    def test_kept_by_look(self):
        def look(house):
            house.look(0, "bank")
            house.keep()
            return "told"

        for keep in (False, None, 1, True):
            house = self.house.copy()
            self.same(house.tried(look, keep=keep), "told")
            self.same(len(house.run), 2)

    def test_keep_in_an_inner_block_is_not_for_this_one(self):
        before = looks_of(self.house)

        def look(house):
            with house.trial():
                house.look(0, "bank")
                house.keep()
            return len(house.run)

        self.same(self.house.tried(look), 2)
        self.as_before(before)
        self.same(self.house.tried(lambda house: house.tried(look, keep=True)), 2)
        self.as_before(before)
        self.same(self.house.tried(lambda house: house.tried(look), keep=True), 2)
        self.as_before(before)
        self.same(self.house.tried(look, keep=True), 2)
        self.same(len(self.house.run), 2)

    def test_errors_pass_on(self):
        before = looks_of(self.house)

        def look(house):
            house.look(0, "bank")
            house.keep()
            raise Stop("told")

        for keep in (False, True):
            with self.assertRaises(Stop) as caught:
                self.house.tried(look, keep=keep)
            self.same(caught.exception.args, ("told",))
            self.as_before(before)
        self.refuses(Rival, ("mill", "oil"), self.house.tried, lambda house: house.look(0, "mill"), keep=True)
        self.as_before(before)
        self.refuses(NoTrial, None, self.house.keep)

    def test_within_a_block(self):
        before = looks_of(self.house)
        with self.house.trial():
            self.house.tried(lambda house: house.look(0, "bank"), keep=True)
            self.same(len(self.house.run), 2)
        self.as_before(before)

    def test_keep_is_told_by_name_alone(self):
        with self.assertRaises(TypeError):
            self.house.tried(lambda house: None, True)

    def test_by_walls_as_by_plain(self):
        house = House(walls(Book(TEXT)))
        for steps in range(3):
            self.same(house.tried(lambda held: [held.hire("hand") for _ in range(3)]), [steps, steps + 1, steps + 2])
            self.same(house.tried(lambda held: held.hire("hand"), keep=True), steps)
        with self.assertRaises(WallError):
            house.tried(lambda held: held.hire("none"), keep=True)
        self.same(len(house), 3)
