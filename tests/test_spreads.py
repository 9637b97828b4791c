"""How the worths of a tour are spread over the figures [6.8]."""

import unittest

from sheetproofs.books import Book
from sheetproofs.counts import count_figures
from sheetproofs.errors import BadSize, BadTour
from sheetproofs.everyprime import NoTable, Refutal, follows_modulo
from sheetproofs.pictures import full_picture
from sheetproofs.spreads import Spread, spread_of
from tests.bookshelf import (BARE, R, SQUARE, a_tour, row_at, some_books, square_book, steps_that_keep, times)
from tests.helpers import Case, a_random, in_good_time, some_tours
from tests.test_counts import half_of, sizes_for
from tests.test_sizes import NO_SIZES
from tests.test_tables import BAD_TOURS


class TestSpread(Case):
    def test_example(self):
        self.assertTrue(spread_of(square_book((2, 1)), R, 5) == Spread(2, 1, 1))
        self.assertIsNone(spread_of(square_book((2, 1)), R, 7))

    def test_small(self):
        self.assertTrue(spread_of(Book(SQUARE, ()), list(R), 7) == Spread(6, 1, 0))
        self.assertTrue(spread_of(Book(SQUARE, ()), times(4), 7) == Spread(3, 2, 0))
        self.assertTrue(spread_of(Book(SQUARE, ()), times(0), 7) == Spread(1, 6, 0))
        self.assertTrue(spread_of(square_book((1, 1)), R, 7) == Spread(1, 1, 1))
        self.assertTrue(spread_of(square_book((1, 1)), R, 8) == Spread(1, 1, 0))
        self.assertTrue(spread_of(square_book((3, 1)), R, 16) == Spread(3, 1, 0))
        self.assertTrue(spread_of(square_book((3, 1)), R, 2) == Spread(1, 1, 0))
        self.assertTrue(spread_of(Book(BARE, ()), (), 9) == Spread(1, 1, 0))
        self.assertIsNone(spread_of(Book(BARE, [((), 1)]), (), 9))
        self.assertTrue(spread_of(Book(BARE, [((), 1)]), (), 4) == Spread(1, 1, 0))
        self.assertTrue(spread_of(Book(SQUARE, ()), times(10 ** 299), 19997) == Spread(4999, 4, 0))

    def test_against_all_step_tables(self):
        chances = a_random(291)
        seen = []
        for book, saying in some_books(291):
            for tour in (saying[0], a_tour(chances, book.picture)):
                row = row_at(book.picture, tour)
                for size in sizes_for(book.picture):
                    around = size - 1
                    tables = steps_that_keep(book, around, half_of(size))
                    found = spread_of(book, tour, size)
                    if not tables:
                        self.assertIsNone(found)
                        continue
                    met = {}
                    for steps in tables:
                        worth = sum(a * b for a, b in zip(row, steps)) % around
                        met[worth] = met.get(worth, 0) + 1
                    self.is_tuples((found.many, found.each, found.sign))
                    self.assertEqual(len(met), found.many)
                    self.assertEqual(set(met.values()), {found.each})
                    self.assertEqual(sorted(met), [worth for worth in range(around) if
                                                   (worth * found.many - found.sign * half_of(size)) % around == 0])
                    if size % 2 == 0:
                        self.assertEqual(found.sign, 0)
                    seen.append((found.many > 1, found.sign))
        self.assertEqual(len(set(seen)), 4)

    def test_the_saying_follows_exactly_if_there_is_one_worth(self):
        for book, saying in some_books(292):
            for prime in (3, 5, 7, 13):
                found = spread_of(book, saying[0], prime)
                if found is None:
                    self.assertIsInstance(follows_modulo(book, saying, prime), NoTable)
                else:
                    self.assertEqual(found.many * found.each, count_figures(book, prime))
                    answer = follows_modulo(book, (saying[0], found.sign), prime)
                    self.assertIs(isinstance(answer, Refutal), found.many > 1)

    def test_errors_in_their_order(self):
        book = square_book((2, 1))
        for tour, what in BAD_TOURS:
            self.refused(BadTour, {"what": what}, spread_of, book, tour, 6)
        for thing in NO_SIZES:
            self.refused(BadSize, {}, spread_of, book, R, thing)

    @in_good_time
    def test_great_books(self):
        chances = a_random(293)
        picture = full_picture(5, 5)
        for bound in (3, 10 ** 100):
            tours = some_tours(picture, chances, 11, bound)
            book = Book(picture, [(tour, 1) for tour in tours[:10]])
            for size in (3, 16384, 19683, 19997):
                found = spread_of(book, tours[10], size)
                many = count_figures(book, size)
                self.assertEqual(0 if found is None else found.many * found.each, many)

    def test_result(self):
        self.check_result(Spread, "many each sign")


if __name__ == "__main__":
    unittest.main()
