"""What follows in fields of even kind [5.9]."""

import unittest
from itertools import product

from sheetproofs.books import Book
from sheetproofs.errors import BadSaying
from sheetproofs.evens import EvenDerivation, TurnTable, even_fault, follows_even, turn_fault
from sheetproofs.forms import form_of
from sheetproofs.pictures import full_picture
from tests.bookshelf import (APART, BARE, R, SQUARE, TREE, added_up, row_at, some_books, square_book, times)
from tests.helpers import NO_SEQUENCES, NO_WHOLES, Case, a_random, in_good_time, some_tours
from tests.lattices import dot, in_form
from tests.test_sayings import WRONG as WRONG_SAYINGS

ZERO = (0, 0, 0, 0)


class EvenCase(Case):
    def check_answer(self, book, saying):
        """Check what is returned; return the twos, or the modulus below zero."""
        found = follows_even(book, saying)
        tour = tuple(saying[0])
        if isinstance(found, EvenDerivation):
            self.is_tuples((found.twos, found.numbers))
            self.assertEqual(len(found.numbers), len(book))
            self.assertEqual(added_up(book.picture, book.premises, found.numbers)[0],
                             times(2 ** found.twos, tour))
            self.assertIsNone(even_fault(book, saying, found.twos, found.numbers))
            return found.twos
        self.assertIsInstance(found, TurnTable)
        self.is_tuples((found.modulus, found.row))
        self.assertEqual(len(found.row), len(book.picture))
        self.assertTrue(found.modulus >= 3 and found.modulus % 2 == 1)
        self.assertTrue(all(0 <= number < found.modulus for number in found.row))
        self.assertFalse(any(dot(premise, found.row) % found.modulus for premise, _ in book.premises))
        self.assertNotEqual(dot(tour, found.row) % found.modulus, 0)
        self.assertIsNone(turn_fault(book, saying, found.modulus, found.row))
        return -found.modulus


class TestFollowsEven(EvenCase):
    def test_example(self):
        self.assertEqual(self.check_answer(square_book((3, 0)), (R, 0)), -3)

    def test_small(self):
        self.assertEqual(self.check_answer(square_book((3, 1)), (times(3), 0)), 0)
        self.assertEqual(self.check_answer(square_book((3, 1)), [list(times(6)), 1]), 0)
        self.assertEqual(self.check_answer(square_book((8, 1)), (R, 0)), 3)
        self.assertEqual(self.check_answer(square_book((8, 1)), (times(2), 1)), 2)
        self.assertEqual(self.check_answer(square_book((24, 1)), (times(6), 1)), 2)
        self.assertEqual(self.check_answer(square_book((24, 1)), (times(4), 1)), -3)
        self.assertEqual(self.check_answer(square_book((9, 0)), (times(3), 1)), -9)
        self.assertEqual(self.check_answer(square_book((45, 0)), (times(3), 1)), -5)
        self.assertEqual(self.check_answer(square_book((27, 0)), (times(9), 1)), -27)
        self.assertEqual(self.check_answer(square_book((19997, 0)), (R, 0)), -19997)
        self.assertEqual(self.check_answer(Book(SQUARE, ()), (R, 0)), -3)
        self.assertEqual(self.check_answer(Book(SQUARE, ()), (times(15), 0)), -7)
        self.assertEqual(self.check_answer(Book(SQUARE, ()), (times(105), 0)), -9)
        self.assertEqual(self.check_answer(Book(SQUARE, ()), (ZERO, 1)), 0)
        self.assertEqual(self.check_answer(square_book((2, 0), (0, 1)), (ZERO, 0)), 0)

    def test_signs_mean_nothing(self):
        contrary = square_book((1, 0), (1, 1))
        self.assertEqual(self.check_answer(contrary, (R, 1)), 0)
        self.assertEqual(self.check_answer(Book(BARE, [((), 1)]), ((), 0)), 0)
        self.assertEqual(self.check_answer(Book(BARE, ()), ([], 1)), 0)
        self.assertEqual(self.check_answer(Book(TREE, ()), ((0, 0, 0), 1)), 0)

    def test_two_numbers_at_once(self):
        first, second = (1, -1, -1, 1, 0, 0, 0, 0), (0, 0, 0, 0, 1, -1, -1, 1)
        book = Book(APART, [(times(9, first), 0), (times(25, second), 0)])
        both = tuple(a + b for a, b in zip(times(3, first), second))
        self.assertEqual(self.check_answer(book, (both, 0)), -5)
        self.assertEqual(self.check_answer(book, (times(5, both), 0)), -9)
        self.assertEqual(self.check_answer(book, (times(25, both), 0)), -9)
        self.assertEqual(self.check_answer(book, (times(75, both), 0)), 0)

    def test_against_all_turn_tables(self):
        seen = {True: 0, False: 0}
        for book, saying in some_books(261, many=20):
            found = self.check_answer(book, saying)
            seen[found < 0] += 1
            rows = [row_at(book.picture, tour) for tour, _ in book.premises]
            asked = row_at(book.picture, saying[0])
            if found >= 0:
                form = form_of(len(asked), rows)
                for twos in range(found):
                    self.assertFalse(in_form(form, times(2 ** twos, asked)))
            if len(asked) > 2:
                continue
            for modulus in (3, 5, 7, 9, 15):
                apart = any(dot(asked, row) % modulus for row in product(range(modulus), repeat=len(asked))
                            if not any(dot(known, row) % modulus for known in rows))
                if apart:
                    self.assertTrue(-modulus <= found < 0)
        self.assertGreater(min(seen.values()), 20)

    def test_great_elementary_numbers(self):
        great = 10 ** 39 + 3
        self.assertEqual(self.check_answer(square_book((great * 5, 0)), (R, 0)), -5)
        self.assertLess(self.check_answer(square_book((great, 0)), (R, 0)), -20000)
        self.assertEqual(self.check_answer(square_book((2 ** 990, 0)), (R, 0)), 990)

    def test_the_saying_is_checked(self):
        book = square_book((1, 0))
        for saying, what in WRONG_SAYINGS:
            self.refused(BadSaying, {"what": what}, follows_even, book, saying)
            self.refused(BadSaying, {"what": what}, even_fault, book, saying, None, None)
            self.refused(BadSaying, {"what": what}, turn_fault, book, saying, None, None)

    @in_good_time
    def test_ten_premises(self):
        chances = a_random(262)
        picture = full_picture(5, 5)
        for bound in (2, 9, 10 ** 30, 10 ** 298):
            premises = [(tour, chances.randint(0, 1)) for tour in some_tours(picture, chances, 10, bound)]
            book = Book(picture, premises)
            self.assertLess(self.check_answer(book, (some_tours(picture, chances, 1, bound)[0], 1)), 0)
            self.assertEqual(self.check_answer(book, added_up(picture, premises, [5] * 10)), 0)


class TestJudges(Case):
    def test_even_fault(self):
        book = square_book((4, 1), (6, 0))
        self.assertIsNone(even_fault(book, (R, 0), 1, (-1, 1)))
        self.assertIsNone(even_fault(book, [list(R), 1], 1, [2, -1]))
        self.assertIsNone(even_fault(book, (R, 1), 2, (1, 0)))
        self.assertIsNone(even_fault(book, (ZERO, 1), 300, (3, -2)))
        self.assertIsNone(even_fault(book, (R, 1), 300, (2 ** 298, 0)))
        for thing in NO_WHOLES + (-1, -10 ** 30):
            self.assertEqual(even_fault(book, (R, 0), thing, None), "twos")
        for thing in NO_SEQUENCES + ((), (1,), (1, 2, 3)):
            self.assertEqual(even_fault(book, (R, 0), 1, thing), "length")
        for thing in NO_WHOLES:
            self.assertEqual(even_fault(book, (R, 0), 1, (thing, 1)), "number")
            self.assertEqual(even_fault(book, (R, 0), 1, [-1, thing]), "number")
        self.assertEqual(even_fault(book, (R, 0), 0, (-1, 1)), "tour")
        self.assertEqual(even_fault(book, (R, 0), 1, (1, -1)), "tour")
        self.assertIsNone(even_fault(Book(BARE, ()), ((), 1), 0, ()))

    def test_turn_fault(self):
        book = square_book((9, 1))
        self.assertIsNone(turn_fault(book, (times(3), 0), 9, (0, 0, 0, 1)))
        self.assertIsNone(turn_fault(book, [list(R), 1], 3, [2, 1, 1, 1]))
        self.assertIsNone(turn_fault(book, (R, 0), 27, (0, 0, 0, 3)))
        for thing in NO_WHOLES + (-3, 0, 1, 2, 4, 10 ** 30, -1):
            self.assertEqual(turn_fault(book, (R, 0), thing, None), "modulus")
        for thing in NO_SEQUENCES + ((), (0, 0, 0), (0, 0, 0, 0, 0), (0, 0, 0, 3), (0, -1, 0, 0)):
            self.assertEqual(turn_fault(book, (R, 0), 3, thing), "row")
        for thing in NO_WHOLES:
            self.assertEqual(turn_fault(book, (R, 0), 3, (0, thing, 0, 0)), "row")
        self.assertEqual(turn_fault(book, (R, 0), 5, (0, 0, 0, 1)), "premise")
        self.assertEqual(turn_fault(square_book((5, 0), (3, 0)), (R, 0), 5, (0, 0, 0, 1)), "premise")
        self.assertEqual(turn_fault(book, (times(3), 0), 3, (0, 0, 0, 1)), "kept")
        self.assertEqual(turn_fault(book, (R, 0), 3, (1, 1, 1, 1)), "kept")
        self.assertEqual(turn_fault(Book(BARE, ()), ((), 1), 3, ()), "kept")

    def test_results(self):
        self.check_result(EvenDerivation, "twos numbers")
        self.check_result(TurnTable, "modulus row")
        self.assertFalse(EvenDerivation(3, (1,)) == TurnTable(3, (1,)))


if __name__ == "__main__":
    unittest.main()
