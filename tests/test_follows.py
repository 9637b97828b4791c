"""What follows over every field in which two is not zero [5.5]."""

import unittest

from sheetproofs.books import Book, derivation_fault
from sheetproofs.errors import BadSaying, TooMany
from sheetproofs.everyprime import Refutal
from sheetproofs.follows import Contrary, Derivation, follows_everywhere
from sheetproofs.pictures import full_picture
from tests.bookshelf import (BARE, R, SQUARE, TREE, added_up, primes_to, row_at, some_books, square_book,
                             times, word_modulo)
from tests.helpers import a_random, in_good_time, some_tours
from tests.lattices import in_form
from tests.test_everyprime import PrimeCase, minus
from tests.test_sayings import WRONG as WRONG_SAYINGS

ZERO = (0, 0, 0, 0)


class TestFollowsEverywhere(PrimeCase):
    def answer(self, book, saying):
        """Check what is returned, and return its class, or the prime of a refutal."""
        found = follows_everywhere(book, saying)
        if isinstance(found, Refutal):
            self.check_refutal(book, saying, found)
            return found.prime
        self.assertIn(found.__class__, (Contrary, Derivation))
        self.is_tuples(found.numbers)
        asked = minus(book.picture) if isinstance(found, Contrary) else (tuple(saying[0]), saying[1])
        self.assertEqual(len(found.numbers), len(book))
        self.exactly(added_up(book.picture, book.premises, found.numbers), asked)
        self.assertIsNone(derivation_fault(book, asked, found.numbers))
        return found.__class__

    def test_example(self):
        self.assertEqual(self.answer(square_book((3, 0)), (R, 0)), 7)

    def test_small(self):
        self.assertIs(self.answer(square_book((3, 1), (2, 0)), [list(R), 1]), Derivation)
        self.assertEqual(self.answer(square_book((3, 1), (2, 0)), (R, 0)), 3)
        self.assertIs(self.answer(square_book((3, 0), (2, 1)), (R, 1)), Contrary)
        self.assertIs(self.answer(square_book((2, 1), (1, 0)), (R, 0)), Contrary)
        self.assertIs(self.answer(square_book((2, 1), (1, 0)), (ZERO, 0)), Contrary)
        self.assertIs(self.answer(Book(SQUARE, ()), (ZERO, 0)), Derivation)
        self.assertEqual(self.answer(Book(SQUARE, ()), (ZERO, 1)), 3)
        self.assertEqual(self.answer(square_book((2, 1)), (ZERO, 1)), 5)
        self.assertEqual(self.answer(square_book((4, 1)), (ZERO, 1)), 17)
        self.assertIs(self.answer(Book(TREE, ()), ((0, 0, 0), 0)), Derivation)

    def test_pictures_without_open_pairs(self):
        self.assertTrue(follows_everywhere(Book(BARE, ()), ((), 0)) == Derivation(()))
        self.assertTrue(follows_everywhere(Book(BARE, ()), ([], 1)) == Refutal(3, ()))
        self.assertIs(self.answer(Book(BARE, [((), 1)]), ((), 0)), Contrary)
        self.assertIs(self.answer(Book(BARE, [((), 0), ((), 1)]), ((), 1)), Contrary)

    def test_against_all_tables(self):
        kinds = {Contrary: 0, Derivation: 0}
        for book, saying in some_books(241, many=20):
            row = row_at(book.picture, saying[0])
            found = self.answer(book, saying)
            if found in kinds:
                kinds[found] += 1
            self.assertIs(found is Contrary, in_form(book.lot, (0,) * len(row) + (1,)))
            if found is not Contrary:
                self.assertIs(found is Derivation, in_form(book.lot, row + (saying[1],)))
            for prime in primes_to(7 if len(row) > 2 else 13):
                word = word_modulo(book, saying, prime)
                if found is Contrary:
                    self.assertEqual(word, "none")
                elif found is Derivation or prime < found:
                    self.assertNotEqual(word, "refuted")
                elif prime == found:
                    self.assertEqual(word, "refuted")
        self.assertGreater(min(kinds.values()), 10)

    def test_the_least_prime_is_far(self):
        # The worth of r is then no one, but its power is, so prime - 1 is a multiple of this prime.
        for whole in (11, 97, 1009, 3331, 4999, 6661, 9973):
            wanted = [prime for prime in primes_to(20000) if (prime - 1) % whole == 0]
            if wanted:
                self.assertEqual(self.answer(square_book((whole, 0)), (R, 0)), wanted[0])
            else:
                self.refused(TooMany, {"most": 20000}, follows_everywhere, square_book((whole, 0)), (R, 0))
        self.assertEqual(self.answer(square_book((9791, 0)), (R, 0)), 19583)

    def test_too_many(self):
        for whole in (10007, 19997, 10 ** 200 + 357):
            self.refused(TooMany, {"most": 20000}, follows_everywhere, square_book((whole, 0)), (R, 0))
        self.refused(TooMany, {"most": 20000}, follows_everywhere, square_book((2 ** 14, 1)), (R, 0))
        self.assertIs(self.answer(square_book((10007, 0), (1, 0)), (R, 0)), Derivation)
        self.assertIs(self.answer(square_book((10007, 0), (10007, 1)), (R, 0)), Contrary)
        self.assertIs(self.answer(square_book((10007, 0)), (times(10007 * 3), 0)), Derivation)

    def test_the_saying_is_checked(self):
        for saying, what in WRONG_SAYINGS:
            self.refused(BadSaying, {"what": what}, follows_everywhere, square_book((1, 0)), saying)

    def test_nothing_passed_in_is_changed(self):
        saying = [list(R), 0]
        book = Book(SQUARE, [saying])
        follows_everywhere(book, saying)
        self.assertEqual(saying, [[1, -1, -1, 1], 0])
        self.assertTrue(book == square_book((1, 0)))

    @in_good_time
    def test_ten_premises_with_great_numbers(self):
        chances = a_random(242)
        picture = full_picture(5, 5)
        for bound in (2, 9, 10 ** 30, 10 ** 298):
            premises = [(tour, chances.randint(0, 1)) for tour in some_tours(picture, chances, 10, bound)]
            book = Book(picture, premises)
            self.answer(book, (some_tours(picture, chances, 1, bound)[0], 1))
            self.assertIs(self.answer(book, added_up(picture, premises, [5] * 10)), Derivation)

    def test_results(self):
        self.check_result(Contrary, "numbers")
        self.check_result(Derivation, "numbers")
        self.assertFalse(Contrary((1,)) == Derivation((1,)))
        self.assertFalse(Derivation((1,)) == Contrary((1,)))


if __name__ == "__main__":
    unittest.main()
