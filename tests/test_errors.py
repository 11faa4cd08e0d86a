"""Point 15: the errors."""

import inspect
import unittest

from tests.helpers import TEXT, deep
from wallbooks import errors
from wallbooks.books import Book
from wallbooks.errors import WallError
from wallbooks.fences import plain

NAMES = """BadBook NoClient NoKind BadRivals BadWord BadRight BadPairs BadLot BadPair OtherBook BadStaff BadRun
NotApart TooMany BadOffers BadClients BadCases NoneFits BadRivalry NoPerson Full NoRight Rival Fenced Left
NothingToUndo NothingToRedo NoTrial BadJournal BadLine""".split()


class ErrorsTest(unittest.TestCase):
    def setUp(self):
        self.classes = [getattr(errors, name) for name in NAMES]

    def test_all_are_there_and_no_others(self):
        self.assertEqual(len(NAMES), 30)
        found = [name for name, thing in vars(errors).items() if inspect.isclass(thing)]
        self.assertEqual(sorted(found), sorted([*NAMES, "WallError"]))

    def test_all_are_defined_in_the_file(self):
        for error in [WallError, *self.classes]:
            self.assertEqual(error.__module__, "wallbooks.errors")

    def test_names_are_those_of_the_classes(self):
        self.assertEqual([error.__name__ for error in self.classes], NAMES)

    def test_base_is_directly_below_value_error(self):
        self.assertEqual(WallError.__bases__, (ValueError,))

    def test_each_is_directly_below_wall_error(self):
        for error in self.classes:
            self.assertEqual(error.__bases__, (WallError,))

    def test_each_keeps_any_value(self):
        book = Book(TEXT)
        values = [0, 1, True, False, None, "", "oil", (), ("oil", 1), [], [1], {}, {"a": 1}, book, plain(book),
                  deep("oil", 30), deep(book, 30)]
        for error in [WallError, *self.classes]:
            for value in values:
                self.assertIs(error(value).value, value)

    def test_each_takes_one_value_only(self):
        for error in [WallError, *self.classes]:
            self.assertRaises(TypeError, error)
            self.assertRaises(TypeError, error, 1, 2)

    def test_each_is_caught_as_itself_and_its_bases(self):
        for error in self.classes:
            for base in (error, WallError, ValueError):
                with self.assertRaises(base):
                    raise error(1)

    def test_each_is_caught_as_none_of_the_others(self):
        for error in self.classes:
            for other in self.classes:
                self.assertEqual(isinstance(error(1), other), error is other)

    def test_base_is_caught_as_none_of_the_others(self):
        for other in self.classes:
            self.assertNotIsInstance(WallError(1), other)
