"""The examples of the document, as they stand there."""

import doctest
import unittest

BOOKS = r"""
>>> from wallbooks.books import Book
>>> book = Book('clients oil bank mill\nrivals oil mill\nkind hand\nlooks oil bank mill\nwrites oil bank mill')
>>> [book.clients, book.rivals, book.are_rivals('mill', 'oil'), book.rivals_of('bank'), len(book), 'rail' in book]
[('oil', 'bank', 'mill'), (('oil', 'mill'),), True, (), 3, False]
"""

FENCES = r"""
>>> from wallbooks.fences import bare, Fence, plain, walls
>>> [len(plain(book)), walls(book).pairs, len(bare(book)), walls(book).is_within(plain(book)), ('oil', 'bank') in walls(book)]
[4, (('bank', 'mill'), ('bank', 'oil')), 0, True, False]
>>> [walls(book).lets(('bank',), 'oil'), walls(book).lets(('oil', 'bank'), 'oil'), walls(book).lets(('oil',), 'bank')]
[True, True, False]
"""

RUNS = r"""
>>> from wallbooks.runs import barred, barred_by_facts, meeting, stand
>>> staff, run = ('hand', 'hand'), ((0, 'look', 'oil'), (0, 'write', 'bank'), (1, 'look', 'mill'), (1, 'look', 'bank'))
>>> [meeting(book, staff, run), barred(plain(book), staff, run), barred(walls(book), staff, run), barred_by_facts(book, staff, run)]
[3, None, 1, 3]
>>> stand(book, staff, run[:3])
(((('oil',), ('oil', 'bank'), ('oil',)), (('mill',), ('mill',), ('mill',))), (('oil',), ('oil', 'bank'), ('mill',)))
>>> barred(plain(book), ('hand',), ((0, 'write', 'oil'), (0, 'look', 'bank'), (0, 'look', 'mill')))
2
"""

APART = r"""
>>> from wallbooks.apart import apart, shows_apart
>>> [apart(plain(book))[0], shows_apart(plain(book), ('round', staff, run)), apart(bare(book))[0]]
['round', True, 'apart']
>>> shows_apart(walls(book), ('apart', (('oil', 'bank'), ('bank',), ('bank', 'mill'))))
True
"""

FULLEST = r"""
>>> from wallbooks.fullest import addable, fullest
>>> [addable(bare(book)), fullest(bare(book)) == ('only', walls(book))]
[(('bank', 'mill'), ('bank', 'oil')), True]
"""

STAFFS = r"""
>>> from wallbooks.staffs import gathered, greatest
>>> [greatest(book, 'hand'), gathered(book, ('hand',)), gathered(book, ('hand', 'hand'))[0]]
[(('bank', 'mill'), ('oil', 'bank')), ('apart',), 'meet']
"""

LOTS = r"""
>>> from wallbooks.lots import needed, passed_on, shows_passed_on
>>> [passed_on(book)[0], shows_passed_on(book, ('three', ('oil', 'bank', 'mill'))), passed_on(book.with_rivals('oil', 'bank')), needed(book)[0]]
['three', True, ('lots', (('oil',), ('bank', 'mill'))), 2]
"""

CHOOSING = r"""
>>> from wallbooks.choosing import cheapest
>>> cheapest(book, (('rivals', 'oil', 'bank', 3), ('stop', 'hand', 'write', 'bank', 2)))[:3]
('choice', 2, (1,))
"""

TELLING = r"""
>>> from wallbooks.telling import fits, told_back
>>> cases = ((('oil',), 'bank', 'let'), (('oil', 'bank'), 'mill', 'barred'))
>>> [told_back(('oil', 'bank', 'mill'), cases), fits(('oil', 'bank', 'mill'), cases, (('bank', 'mill'),))]
[((), (('bank', 'mill'), ('oil', 'mill')), (('oil', 'bank'),)), True]
"""

HOUSES = r"""
>>> from wallbooks.houses import House
>>> house = House(walls(book))
>>> [house.hire('hand'), house.look(0, 'bank'), house.write(0, 'oil'), house.papers('oil'), house.holds(0), house.risk()[0]]
[0, None, None, ('oil', 'bank'), ('oil', 'bank'), 'apart']
>>> house.can(0)
(('look', 'bank'), ('look', 'oil'), ('write', 'bank'), ('write', 'oil'))
"""

JOURNALS = r"""
>>> from wallbooks.journals import journal, read_journal
>>> [journal(house).split('\n')[5:], read_journal(journal(house)) == house]
[['pair bank mill', 'pair bank oil', 'house', 'hire hand', 'look 0 bank', 'write 0 oil'], True]
>>> from wallbooks.desk import Desk
>>> desk = Desk(journal(house))
>>> [desk.say('papers oil'), desk.say('can 0'), desk.say('risk'), desk.say('undo'), desk.say('papers oil')]
['oil bank', 'look bank, look oil, write bank, write oil', 'apart', 'ok', 'oil']
"""


class ExamplesTest(unittest.TestCase):
    def runs(self, text):
        told = []
        test = doctest.DocTestParser().get_doctest(text, {}, "examples", None, 0)
        found = doctest.DocTestRunner(verbose=False).run(test, out=told.append)
        self.assertEqual(found.failed, 0, "".join(told))
        self.assertEqual(found.attempted, text.count(">>> "))

    def test_books(self):
        self.runs(BOOKS)

    def test_fences(self):
        self.runs(BOOKS + FENCES)

    def test_runs(self):
        self.runs(BOOKS + FENCES + RUNS)

    def test_apart(self):
        self.runs(BOOKS + FENCES + RUNS + APART)

    def test_fullest(self):
        self.runs(BOOKS + FENCES + FULLEST)

    def test_staffs(self):
        self.runs(BOOKS + STAFFS)

    def test_lots(self):
        self.runs(BOOKS + LOTS)

    def test_choosing(self):
        self.runs(BOOKS + CHOOSING)

    def test_telling(self):
        self.runs(TELLING)

    def test_houses(self):
        self.runs(BOOKS + FENCES + HOUSES)

    def test_journals_and_the_desk(self):
        self.runs(BOOKS + FENCES + HOUSES + JOURNALS)

    def test_all_of_them_one_behind_the_other(self):
        self.runs(BOOKS + FENCES + RUNS + APART + FULLEST + STAFFS + LOTS + CHOOSING + TELLING + HOUSES + JOURNALS)
