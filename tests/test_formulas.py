"""One formula for all odd sizes, and what it tells of primes [6.5 to 6.7]."""

import unittest

from sheetproofs.books import Book
from sheetproofs.counts import count_figures, has_table
from sheetproofs.errors import BadSize, BadSpan
from sheetproofs.formulas import Formula, formula_of, least_prime_with, sizes_with, unlike_prime
from sheetproofs.pictures import full_picture
from sheetproofs.sizes import sizes_between
from sheetproofs.splits import elementary_of
from tests.bookshelf import (APART, BARE, NINE, SQUARE, TREE, WIDE, primes_to, some_books, square_book, times)
from tests.helpers import NO_WHOLES, Case, a_random, in_good_time, some_tours
from tests.test_sizes import NO_SIZES
from tests.test_splits import FIRST, SECOND


def nine_book(*premises):
    """Return a book on three points and three walls: so many times each basis tour, with signs."""
    tours = ((1, -1, 0, -1, 1, 0, 0, 0, 0), (1, 0, -1, -1, 0, 1, 0, 0, 0),
             (1, -1, 0, 0, 0, 0, -1, 1, 0), (1, 0, -1, 0, 0, 0, -1, 0, 1))
    return Book(NINE, [(times(whole, tour), sign) for (whole, sign), tour in zip(premises, tours)])


class TestFormula(Case):
    def test_example(self):
        self.assertTrue(formula_of(square_book((2, 1))) == Formula(4, 2, 0, ()))

    def test_small(self):
        self.assertTrue(formula_of(Book(BARE, ())) == Formula(2, 1, 0, ()))
        self.assertTrue(formula_of(Book(SQUARE, ())) == Formula(2, 1, 1, ()))
        self.assertTrue(formula_of(Book(NINE, ())) == Formula(2, 1, 4, ()))
        self.assertTrue(formula_of(square_book((12, 0))) == Formula(2, 2, 0, (6,)))
        self.assertTrue(formula_of(square_book((12, 1))) == Formula(8, 4, 0, (3,)))
        self.assertTrue(formula_of(square_book((3, 1))) == Formula(2, 1, 0, (3,)))
        self.assertTrue(formula_of(square_book((1, 1))) == Formula(2, 1, 0, ()))
        self.assertTrue(formula_of(Book(APART, [(times(4, FIRST), 1), (times(12, SECOND), 0)]))
                        == Formula(8, 16, 0, (3,)))
        self.assertTrue(formula_of(nine_book((2, 0), (4, 0), (12, 1))) == Formula(8, 32, 1, (3,)))
        self.assertTrue(formula_of(nine_book((2, 0), (4, 0), (12, 0))) == Formula(2, 8, 1, (2, 6)))
        for book in (square_book((2, 1), (3, 0)), Book(BARE, [((), 1)]), Book(TREE, [((0, 0, 0), 1)])):
            self.assertIsNone(formula_of(book))

    def test_many_at(self):
        odd = [size for size in sizes_between(0, 130) if size % 2] + [6561, 19683, 19993, 19997]
        for book, _ in some_books(301):
            formula = formula_of(book)
            if formula is None:
                self.assertTrue(all(count_figures(book, size) == 0 for size in odd))
                continue
            self.is_tuples((formula.divisor, formula.constant, formula.free, formula.numbers))
            self.assertNotIn(1, formula.numbers)
            for size in odd:
                self.exactly(formula.many_at(size), count_figures(book, size))

    def test_formulas_made_by_callers(self):
        formula = Formula(4, 3, 2, (1, 6, 10))
        for size, many in ((3, 0), (5, 3 * 16), (13, 3 * 144 * 3), (9, 3 * 64 * 2 * 2), (31, 0)):
            self.exactly(formula.many_at(size), many)
        for thing in NO_SIZES + (2, 4, 8, 16384):
            self.refused(BadSize, {}, formula.many_at, thing)
            self.refused(BadSize, {}, Formula(2 ** 20, 1, 0, ()).many_at, thing)
        self.check_result(Formula, "divisor constant free numbers")

    @in_good_time
    def test_great_books(self):
        chances = a_random(302)
        picture = full_picture(5, 5)
        for bound in (3, 10 ** 100):
            book = Book(picture, [(tour, 0) for tour in some_tours(picture, chances, 10, bound)])
            for size in (3, 19683, 19997):
                self.exactly(formula_of(book).many_at(size), count_figures(book, size))


class TestUnlikePrime(Case):
    def test_equal_formulas(self):
        # With A = 1 in both, the elementary numbers 2, 2, 2 and 2, 4 give equal formulas.
        one = nine_book((2, 1), (2, 1), (2, 1), (1, 0))
        other = nine_book((2, 1), (4, 0), (1, 0), (1, 0))
        self.assertEqual((elementary_of(one), elementary_of(other)), ((2, 2, 2), (2, 4)))
        self.assertTrue(formula_of(one) == formula_of(other))
        self.assertIsNone(unlike_prime(one, other))
        one = nine_book((2, 1), (2, 1), (2, 1))
        other = nine_book((2, 1), (4, 0))
        self.assertEqual((elementary_of(one), elementary_of(other)), ((2, 2, 2, 0), (2, 4, 0, 0)))
        self.exactly(unlike_prime(one, other), 5)

    def test_small(self):
        self.assertIsNone(unlike_prime(square_book((3, 0)), square_book((3, 1))))
        self.assertIsNone(unlike_prime(square_book((1, 1)), Book(BARE, ())))
        self.assertIsNone(unlike_prime(square_book((0, 1)), Book(BARE, [((), 1)])))
        self.exactly(unlike_prime(square_book((0, 1)), Book(BARE, ())), 3)
        self.exactly(unlike_prime(square_book((3, 0)), Book(BARE, ())), 7)
        self.exactly(unlike_prime(square_book((2, 0)), square_book((2, 1))), 3)
        self.exactly(unlike_prime(square_book((0, 1)), square_book((16, 1))), 97)
        self.exactly(unlike_prime(square_book((2, 0)), square_book((4, 0))), 5)
        self.exactly(unlike_prime(square_book((29, 0)), Book(TREE, ())), 59)
        self.exactly(unlike_prime(square_book((25, 0)), square_book((5, 0))), 101)

    def test_the_least(self):
        books = [book for book, _ in some_books(303, many=8) if max(elementary_of(book), default=0) <= 30]
        primes = primes_to(130)
        counts = [[count_figures(book, prime) for prime in primes] for book in books]
        seen = [0, 0]
        for at, one in enumerate(books):
            for other_at, other in enumerate(books):
                found = unlike_prime(one, other)
                unlike = [prime for prime, a, b in zip(primes, counts[at], counts[other_at]) if a != b]
                seen[bool(unlike)] += 1
                if unlike:
                    self.exactly(found, unlike[0])
                else:
                    first, second = formula_of(one), formula_of(other)
                    self.assertTrue(first == second or found > 130)
        self.assertGreater(min(seen), 20)


class TestPrimesAndSizes(Case):
    def test_least_prime_with(self):
        self.exactly(least_prime_with(Book(SQUARE, ())), 3)
        for twos, prime in enumerate((3, 5, 17, 17, 97, 193, 257, 257)):
            self.exactly(least_prime_with(square_book((3 * 2 ** twos, 1))), prime)
        self.assertIsNone(least_prime_with(square_book((0, 1))))
        self.assertIsNone(least_prime_with(Book(BARE, [((), 1)])))
        for book, _ in some_books(304):
            found = least_prime_with(book)
            good = [prime for prime in primes_to(300) if has_table(book, prime)]
            self.assertEqual([found], good[:1] if good else [None])

    def test_sizes_with(self):
        book = square_book((2, 1))
        self.exactly(sizes_with(book, 0, 20), (2, 4, 5, 8, 9, 13, 16, 17))
        self.exactly(sizes_with(book, 5, 5), (5,))
        self.exactly(sizes_with(book, 6, 7), ())
        self.exactly(sizes_with(book, 9, 5), ())
        self.exactly(sizes_with(square_book((0, 1)), 0, 40), (2, 4, 8, 16, 32))
        self.exactly(sizes_with(Book(WIDE, ()), 0, 20), sizes_between(0, 20))
        for book, _ in some_books(305, many=4):
            for low, high in ((0, 100), (16000, 16500), (19500, 20000)):
                wanted = [size for size in sizes_between(low, high) if count_figures(book, size) > 0]
                self.exactly(sizes_with(book, low, high), tuple(wanted))

    def test_wrong_bounds(self):
        book = square_book((2, 1))
        for thing in NO_WHOLES + (-1, 20001, 10 ** 30):
            self.refused(BadSpan, {"what": "low"}, sizes_with, book, thing, None)
            self.refused(BadSpan, {"what": "high"}, sizes_with, book, 0, thing)


if __name__ == "__main__":
    unittest.main()
