"""How many tables and figures keep a book over every field [6.2, 6.3, 6.5, 6.9]."""

import unittest
from itertools import product

from sheetproofs.bases import basis_tours
from sheetproofs.books import Book
from sheetproofs.counts import (count_figures, count_tables, figures_over_fractions, has_table, list_figures,
                                steps_fault, steps_for)
from sheetproofs.errors import BadPrime, BadSize, TooMany
from sheetproofs.everyprime import Folded, NoTable, follows_modulo
from sheetproofs.fields import RestField
from sheetproofs.pictures import Picture, full_picture
from sheetproofs.splits import last_twos
from tests.bookshelf import (APART, BARE, R, SQUARE, TREE, WIDE, basis_of, row_at, some_books, square_book,
                             steps_that_keep, times)
from tests.helpers import NO_SEQUENCES, NO_WHOLES, Case, a_random, in_good_time, some_tours
from tests.test_sizes import NO_SIZES
from tests.test_tables import worth

SIZES = (2, 3, 4, 5, 7, 8, 9, 11, 13, 16, 17)


def half_of(size):
    """Return the steps of minus one."""
    return (size - 1) // 2 if size % 2 else 0


def sizes_for(picture):
    """Return sizes for which all step rows of the picture can be gone through."""
    return SIZES if len(basis_of(picture)) < 3 else SIZES[:5]


def holds(tour, sign, steps, size):
    """Tell whether a saying holds for a row of steps."""
    return (sum(a * b for a, b in zip(tour, steps)) - sign * half_of(size)) % (size - 1) == 0


class TestCounts(Case):
    def test_example(self):
        book = square_book((2, 1))
        for size, many in ((3, 0), (5, 2), (7, 0), (9, 2), (11, 0), (13, 2), (17, 2)):
            self.exactly(count_figures(book, size), many)
            self.assertIs(has_table(book, size), many > 0)
        self.exactly(count_tables(book, 5), 128)
        self.exactly(count_tables(book, 3), 0)

    def test_small(self):
        self.exactly(count_figures(Book(SQUARE, ()), 19997), 19996)
        self.exactly(count_tables(Book(SQUARE, ()), 7), 6 ** 4)
        self.exactly(count_figures(square_book((3, 0)), 16), 3)
        self.exactly(count_figures(square_book((3, 1)), 16), 3)
        self.exactly(count_figures(square_book((3, 0)), 8), 1)
        self.exactly(count_figures(square_book((12, 0)), 19683), 2)
        self.exactly(count_figures(square_book((10 ** 299, 0)), 17), 16)
        self.exactly(count_tables(Book(full_picture(5, 5), ()), 16384), 16383 ** 25)

    def test_pictures_without_rings(self):
        for size in SIZES:
            self.exactly(count_figures(Book(BARE, ()), size), 1)
            self.exactly(count_tables(Book(BARE, ()), size), 1)
            self.exactly(count_tables(Book(TREE, ()), size), (size - 1) ** 3)
            self.exactly(count_tables(Book(Picture(3, 3, [(1, 1)]), ()), size), size - 1)
            self.exactly(count_figures(Book(BARE, [((), 1)]), size), 1 - size % 2)
            self.assertIs(has_table(Book(BARE, [((), 1)]), size), size % 2 == 0)

    def test_contrary_books(self):
        book = square_book((2, 1), (3, 0))
        for size in SIZES + (19683, 19997):
            self.exactly(count_figures(book, size), 1 - size % 2)
            self.exactly(count_tables(book, size), (size - 1) ** 3 * (1 - size % 2))

    def test_size_2(self):
        for book, _ in some_books(281):
            self.exactly((count_figures(book, 2), count_tables(book, 2)), (1, 1))
            self.assertIs(has_table(book, 2), True)
            self.exactly(steps_for(book, 2), (0,) * len(book.picture))

    def test_against_all_step_tables(self):
        seen = [0, 0]
        for book, _ in some_books(282):
            picture = book.picture
            for size in sizes_for(picture):
                many = len(steps_that_keep(book, size - 1, half_of(size)))
                seen[many > 0] += size % 2
                self.exactly(count_figures(book, size), many)
                self.assertIs(has_table(book, size), many > 0)
                free = picture.points + picture.walls - len(picture.pieces)
                self.exactly(count_tables(book, size), many * (size - 1) ** free)
        self.assertGreater(min(seen), 50)

    def test_all_tables_of_small_pictures(self):
        for premises in ((), ((2, 1),), ((2, 0),), ((3, 1),), ((1, 1),), ((4, 1), (6, 1))):
            book = square_book(*premises)
            for prime in (2, 3, 5, 7):
                field = RestField(prime)
                signs = (1, prime - 1)
                many = sum(all(worth(field, table, tour) == signs[sign] for tour, sign in book.premises)
                           for table in product(range(1, prime), repeat=4))
                self.exactly(count_tables(book, prime), many)

    def test_one_premise_more(self):
        for book, saying in some_books(283):
            more = book.with_premise(saying)
            for size in (3, 5, 7, 13, 19):
                many, fewer = count_figures(book, size), count_figures(more, size)
                self.assertTrue(fewer == 0 or many % fewer == 0)
                follows = follows_modulo(book, saying, size).__class__ in (NoTable, Folded)
                self.assertIs(many == fewer, follows)

    def test_no_sizes(self):
        book = square_book((2, 1))
        for thing in NO_SIZES:
            for function in (count_figures, count_tables, has_table, steps_for):
                self.refused(BadSize, {}, function, book, thing)
            self.refused(BadSize, {}, steps_fault, book, thing, None)

    @in_good_time
    def test_great_books(self):
        chances = a_random(284)
        picture = full_picture(5, 5)
        for bound in (3, 10 ** 100):
            book = Book(picture, [(tour, 1) for tour in some_tours(picture, chances, 10, bound)])
            for size in (3, 16384, 19683, 19997):
                steps = steps_for(book, size)
                self.assertIs(steps is not None, has_table(book, size))
                if steps is not None:
                    self.assertIsNone(steps_fault(book, size, steps))
                self.assertIs(count_figures(book, size) > 0, steps is not None)


class TestSteps(Case):
    def test_steps_for(self):
        for book, _ in some_books(285):
            for size in SIZES + (27, 19683, 19997):
                found = steps_for(book, size)
                self.assertIs(found is not None, has_table(book, size))
                if found is None:
                    continue
                self.is_tuples(found)
                self.assertEqual(len(found), len(book.picture))
                self.assertTrue(all(0 <= number < size - 1 for number in found))
                self.assertTrue(all(holds(tour, sign, found, size) for tour, sign in book.premises))
                self.assertIsNone(steps_fault(book, size, list(found)))

    def test_steps_fault(self):
        book = square_book((2, 1))
        self.assertIsNone(steps_fault(book, 5, (0, 0, 0, 1)))
        self.assertIsNone(steps_fault(book, 5, [1, 2, 3, 3]))
        self.assertIsNone(steps_fault(book, 16, (0, 0, 0, 0)))
        self.assertIsNone(steps_fault(book, 9, [0, 0, 0, 6]))
        for thing in NO_SEQUENCES + ((), (0, 0, 0), (0, 0, 0, 0, 0), (0, 0, 0, 4), (0, 0, 0, -1), (4, 0, 0, 1)):
            self.assertEqual(steps_fault(book, 5, thing), "row")
        for thing in NO_WHOLES:
            self.assertEqual(steps_fault(book, 5, (0, thing, 0, 1)), "row")
        self.assertEqual(steps_fault(book, 5, (0, 0, 0, 0)), "premise")
        self.assertEqual(steps_fault(book, 5, (0, 0, 0, 2)), "premise")
        self.assertEqual(steps_fault(book, 16, (0, 0, 0, 1)), "premise")
        self.assertEqual(steps_fault(book, 3, (0, 0, 0, 1)), "premise")
        self.assertEqual(steps_fault(square_book((2, 1), (1, 0)), 5, (0, 0, 0, 1)), "premise")
        self.assertIsNone(steps_fault(book, 2, (0, 0, 0, 0)))
        self.assertEqual(steps_fault(book, 2, (0, 0, 0, 1)), "row")
        self.assertIsNone(steps_fault(Book(BARE, ()), 3, ()))
        self.assertEqual(steps_fault(Book(BARE, [((), 1)]), 3, ()), "premise")

    def test_against_all_rows(self):
        for book, _ in some_books(286, (BARE, TREE, SQUARE)):
            for size in (2, 3, 4, 5):
                for row in product(range(size - 1), repeat=len(book.picture)):
                    good = all(holds(tour, sign, row, size) for tour, sign in book.premises)
                    self.assertEqual(steps_fault(book, size, row), None if good else "premise")


class TestListFigures(Case):
    def test_example(self):
        book = square_book((2, 1))
        self.exactly(list_figures(book, 5), ((2,), (3,)))
        self.exactly(list_figures(book, 7), ())
        self.exactly(list_figures(book, 2), ((1,),))
        self.exactly(list_figures(square_book((3, 0)), 7), ((1,), (2,), (4,)))
        self.exactly(list_figures(Book(BARE, ()), 7), ((),))
        self.exactly(list_figures(Book(BARE, [((), 1)]), 7), ())
        self.exactly(list_figures(Book(BARE, [((), 1)]), 2), ((),))
        self.exactly(list_figures(Book(full_picture(5, 5), ()), 2), ((1,) * 16,))

    def test_against_all_worths(self):
        for book, _ in some_books(287):
            picture = book.picture
            rows = [(row_at(picture, tour), sign) for tour, sign in book.premises]
            for prime in (2, 3, 5, 7) if len(basis_of(picture)) > 2 else (2, 3, 5, 7, 11, 13):
                field = RestField(prime)
                signs = (1, prime - 1)
                wanted = [worths for worths in product(range(1, prime), repeat=len(basis_tours(picture)))
                          if all(worth(field, worths, row) == signs[sign] for row, sign in rows)]
                found = list_figures(book, prime)
                self.exactly(found, tuple(wanted))
                self.assertEqual(len(found), count_figures(book, prime))

    @in_good_time
    def test_the_bound(self):
        self.assertEqual(len(list_figures(Book(SQUARE, ()), 19997)), 19996)
        self.exactly(list_figures(square_book((2, 0)), 19997), ((1,), (19996,)))
        self.exactly(list_figures(Book(full_picture(4, 5), [((0,) * 20, 1)]), 3), ())
        self.assertEqual(len(list_figures(Book(full_picture(4, 5), ()), 3)), 4096)
        self.assertEqual(len(list_figures(Book(WIDE, ()), 139)), 138 ** 2)
        for book, prime in ((Book(WIDE, ()), 149), (Book(full_picture(5, 5), ()), 3),
                            (Book(WIDE, [((0,) * 6, 1)]), 19997),
                            (Book(APART, [((1, -1, -1, 1, 0, 0, 0, 0), 0), ((0, 0, 0, 0, 1, -1, -1, 1), 0)]), 151)):
            self.refused(TooMany, {"most": 20000}, list_figures, book, prime)

    def test_no_primes(self):
        for thing in NO_WHOLES + (0, 1, -3, 4, 9, 16, 20001, 20011, 19999, 10 ** 30):
            self.refused(BadPrime, {}, list_figures, Book(full_picture(5, 5), ()), thing)


class TestOverFractions(Case):
    def test_small(self):
        self.exactly(figures_over_fractions(square_book((2, 0))), 2)
        self.exactly(figures_over_fractions(square_book((3, 0))), 1)
        self.exactly(figures_over_fractions(square_book((3, 1))), 1)
        self.exactly(figures_over_fractions(square_book((2, 1))), 0)
        self.exactly(figures_over_fractions(square_book((1, 0), (1, 1))), 0)
        self.assertIsNone(figures_over_fractions(Book(SQUARE, ())))
        self.assertIsNone(figures_over_fractions(Book(WIDE, [((1, -1, 0, -1, 1, 0), 1)])))
        self.exactly(figures_over_fractions(square_book((0, 1))), 0)
        self.exactly(figures_over_fractions(Book(BARE, ())), 1)
        self.exactly(figures_over_fractions(Book(TREE, [((0, 0, 0), 1)])), 0)
        self.exactly(figures_over_fractions(Book(APART, [((2, -2, -2, 2, 0, 0, 0, 0), 0),
                                                         ((0, 0, 0, 0, 4, -4, -4, 4), 0)])), 4)

    def test_against_all_signs(self):
        seen = [0, 0, 0]
        for book, _ in some_books(288, many=30):
            rows = [(row_at(book.picture, tour), sign) for tour, sign in book.premises]
            width = len(basis_of(book.picture))
            # A sign for each basis tour; another worth than 1 and -1 is let only if there is no end.
            many = sum(all(sum(a * b for a, b in zip(row, signs)) % 2 == sign for row, sign in rows)
                       for signs in product((0, 1), repeat=width))
            found = figures_over_fractions(book)
            if many == 0:
                seen[0] += 1
                self.exactly(found, 0)
                self.assertNotEqual(last_twos(book), 0)
            elif len([row for row in Book(book.picture, book.premises).lot if any(row[:-1])]) < width:
                seen[1] += 1
                self.assertIsNone(found)
            else:
                seen[2] += 1
                self.exactly(found, many)
        self.assertGreater(min(seen), 10)


if __name__ == "__main__":
    unittest.main()
