"""The examples of the document, as they stand there."""

import doctest
import unittest

BOOKS = r"""
>>> from wallbooks.books import Book
>>> book = Book('clients oil bank mill\nrivals oil mill\nkind hand\nlooks oil bank mill\nwrites oil bank mill')
>>> [book.clients, book.rivals, book.are_rivals('mill', 'oil'), book.rivals_of('bank'), len(book), 'rail' in book]
[('oil', 'bank', 'mill'), (('oil', 'mill'),), True, (), 3, False]
"""

FENCES = r"""
>>> from wallbooks.fences import bare, Fence, plain, walls
>>> [len(plain(book)), walls(book).pairs, len(bare(book)), walls(book).is_within(plain(book)), ('oil', 'bank') in walls(book)]
[4, (('bank', 'mill'), ('bank', 'oil')), 0, True, False]
>>> [walls(book).lets(('bank',), 'oil'), walls(book).lets(('oil', 'bank'), 'oil'), walls(book).lets(('oil',), 'bank')]
[True, True, False]
"""


class ExamplesTest(unittest.TestCase):
    def runs(self, text):
        told = []
        test = doctest.DocTestParser().get_doctest(text, {}, "examples", None, 0)
        found = doctest.DocTestRunner(verbose=False).run(test, out=told.append)
        self.assertEqual(found.failed, 0, "".join(told))
        self.assertEqual(found.attempted, text.count(">>> "))

    def test_books(self):
        self.runs(BOOKS)

    def test_fences(self):
        self.runs(BOOKS + FENCES)
