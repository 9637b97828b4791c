"""Elementary numbers of books, and twos in the minus saying [6.4]."""

import unittest

from sheetproofs.books import Book
from sheetproofs.lots import fold_in
from sheetproofs.pictures import full_picture
from sheetproofs.splits import elementary_of, last_twos
from tests.bookshelf import (APART, BARE, NINE, SQUARE, TREE, row_at, some_books, square_book, times)
from tests.helpers import Case, a_random, in_good_time, some_tours
from tests.lattices import in_form
from tests.test_turnings import divisors_of_minors

FIRST, SECOND = (1, -1, -1, 1, 0, 0, 0, 0), (0, 0, 0, 0, 1, -1, -1, 1)


class TestElementary(Case):
    def test_small(self):
        self.exactly(elementary_of(square_book((2, 1))), (2,))
        self.exactly(elementary_of(square_book((4, 1), (6, 0))), (2,))
        self.exactly(elementary_of(square_book((2, 1), (3, 0))), ())
        self.exactly(elementary_of(square_book()), (0,))
        self.exactly(elementary_of(square_book((0, 1))), (0,))
        self.exactly(elementary_of(Book(BARE, [((), 1)])), ())
        self.exactly(elementary_of(Book(TREE, ())), ())
        self.exactly(elementary_of(Book(NINE, ())), (0, 0, 0, 0))
        self.exactly(elementary_of(Book(APART, [(times(4, FIRST), 0), (times(6, SECOND), 1)])), (2, 12))
        self.exactly(elementary_of(Book(APART, [(FIRST, 1), (times(6, SECOND), 1)])), (6,))
        self.exactly(elementary_of(Book(APART, [(times(10 ** 299, SECOND), 1)])), (10 ** 299, 0))

    def test_against_minors(self):
        for book, _ in some_books(271):
            rows = [row_at(book.picture, tour) for tour, _ in book.premises]
            width = len(row_at(book.picture, (0,) * len(book.picture)))
            numbers = divisors_of_minors(width, rows)
            self.exactly(elementary_of(book), tuple(number for number in numbers if number != 1))

    @in_good_time
    def test_ten_premises(self):
        chances = a_random(272)
        picture = full_picture(5, 5)
        for bound in (3, 10 ** 100, 10 ** 298):
            premises = [(tour, 1) for tour in some_tours(picture, chances, 10, bound)]
            found = elementary_of(Book(picture, premises))
            self.assertEqual(found[-6:], (0,) * 6)
            self.assertIsNotNone(last_twos(Book(picture, premises)))


class TestLastTwos(Case):
    def test_small(self):
        self.exactly(last_twos(square_book()), 0)
        self.exactly(last_twos(square_book((2, 1))), 1)
        self.exactly(last_twos(square_book((2, 0))), 0)
        self.exactly(last_twos(square_book((8, 1))), 3)
        self.exactly(last_twos(square_book((24, 1))), 3)
        self.exactly(last_twos(square_book((24, 1), (24, 1))), 3)
        self.exactly(last_twos(square_book((24, 1), (16, 0))), 3)
        self.exactly(last_twos(square_book((8, 1), (16, 0))), 3)
        self.exactly(last_twos(square_book((3, 1))), 0)
        self.exactly(last_twos(square_book((2 ** 990, 1))), 990)
        self.exactly(last_twos(Book(BARE, ())), 0)
        self.exactly(last_twos(Book(TREE, [((0, 0, 0), 0)])), 0)
        self.exactly(last_twos(Book(APART, [(times(4, FIRST), 1), (times(2, SECOND), 1)])), 2)

    def test_contrary_books(self):
        for book in (square_book((0, 1)), square_book((2, 1), (3, 0)), square_book((1, 0), (1, 1)),
                     Book(BARE, [((), 1)]), Book(TREE, [((0, 0, 0), 1)])):
            self.assertIsNone(last_twos(book))

    def test_the_greatest(self):
        seen = []
        for book, _ in some_books(273, many=40):
            width = len(row_at(book.picture, (0,) * len(book.picture))) + 1
            rows = [row_at(book.picture, tour) + (sign,) for tour, sign in book.premises]
            rows.append((0,) * (width - 1) + (2,))
            minus = (0,) * (width - 1) + (1,)
            found = last_twos(book)
            seen.append(found)
            if in_form(book.lot, minus):
                self.assertIsNone(found)
                continue
            self.is_tuples(found)
            for twos in range(found + 5):
                folded = fold_in(width, rows, minus, 2 ** twos) is not None
                self.assertIs(folded, twos <= found)
        for wanted in (None, 0, 1, 2):
            self.assertGreater(seen.count(wanted), 2)


if __name__ == "__main__":
    unittest.main()
