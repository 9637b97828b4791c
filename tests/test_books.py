"""Books, their rows, and what whole sums of premises derive [5.1 to 5.4]."""

import unittest
from itertools import product

from sheetproofs.books import (Book, book_rows, derivation_fault, derivation_of, least_often, lifted_row,
                               lowered_row, premise_sum)
from sheetproofs.errors import BadBook, BadNumbers, BadPlace, BadRow, BadSaying
from sheetproofs.forms import form_of
from sheetproofs.pictures import Picture, full_picture
from tests.bookshelf import (BARE, NINE, R, SQUARE, TREE, added_up, basis_of, row_at, some_books, square_book,
                             times)
from tests.helpers import NO_SEQUENCES, NO_WHOLES, Case, a_random, in_good_time, some_pictures, some_tours
from tests.lattices import in_form, is_form
from tests.test_rings import some_rings
from tests.test_sayings import WRONG as WRONG_SAYINGS

GREAT = 10 ** 299
ZERO = (0, 0, 0, 0)
TEN = [(R, 0)] * 10


class TestBook(Case):
    def test_attributes(self):
        book = Book(SQUARE, [[list(R), 1], (ZERO, 0)])
        self.assertTrue(book.picture == SQUARE)
        self.exactly(book.premises, ((R, 1), (ZERO, 0)))
        self.assertEqual(len(book), 2)
        self.exactly(tuple(book), book.premises)
        self.exactly(tuple(saying for saying in book), book.premises)
        for premises in ((), []):
            self.exactly(Book(SQUARE, premises).premises, ())
            self.assertEqual(len(Book(BARE, premises)), 0)
        self.assertEqual(len(Book(SQUARE, TEN)), 10)
        self.exactly(Book(BARE, [((), 1)]).premises, (((), 1),))

    def test_equality(self):
        book = Book(SQUARE, [(R, 0), (ZERO, 1)])
        self.assertTrue(book == Book(full_picture(2, 2), [[[1, -1, -1, 1], 0], [[0, 0, 0, 0], 1]]))
        for other in (Book(SQUARE, [(ZERO, 1), (R, 0)]), Book(SQUARE, [(R, 0)]), Book(SQUARE, [(R, 0), (ZERO, 0)]),
                      book.premises, SQUARE, None):
            self.assertFalse(book == other)
            self.assertTrue(book != other)
        self.assertFalse(Book(BARE, ()) == Book(Picture(2, 1, ()), ()))
        self.assertTrue(Book(SQUARE, [(times(2), 0)]) != Book(SQUARE, [(times(-2), 0)]))

    def test_premises_that_are_none(self):
        for thing in NO_SEQUENCES + (TEN + [(R, 0)], [None] * 11):
            self.refused(BadBook, {"index": -1}, Book, SQUARE, thing)
        for saying, _ in WRONG_SAYINGS:
            self.refused(BadBook, {"index": 0}, Book, SQUARE, [saying, None])
            self.refused(BadBook, {"index": 2}, Book, SQUARE, ((R, 0), [list(R), 1], saying))
        self.refused(BadBook, {"index": 9}, Book, SQUARE, TEN[1:] + [None])

    def test_later_changes_have_no_effect(self):
        tour = list(R)
        premises = [[tour, 0]]
        book = Book(SQUARE, premises)
        tour[0] = 5
        premises[0][1] = 1
        premises.append(None)
        self.assertTrue(book == Book(SQUARE, [(R, 0)]))
        self.exactly(book.lot, ((1, 0), (0, 2)))

    def test_with_premise(self):
        book = Book(SQUARE, [(R, 0)])
        found = book.with_premise([list(times(3)), 1])
        self.assertTrue(found == Book(SQUARE, [(R, 0), (times(3), 1)]))
        self.assertTrue(book == Book(SQUARE, [(R, 0)]))
        self.assertEqual(len(Book(SQUARE, TEN[1:]).with_premise((R, 1))), 10)
        for saying, _ in WRONG_SAYINGS:
            self.refused(BadBook, {"index": 1}, book.with_premise, saying)
        self.refused(BadBook, {"index": 0}, Book(BARE, ()).with_premise, (R, 0))
        for saying in ((R, 0), None):
            self.refused(BadBook, {"index": 10}, Book(SQUARE, TEN).with_premise, saying)

    def test_without_premise(self):
        book = square_book((1, 0), (2, 1), (3, 0))
        self.assertTrue(book.without_premise(0) == square_book((2, 1), (3, 0)))
        self.assertTrue(book.without_premise(1) == square_book((1, 0), (3, 0)))
        self.assertTrue(book.without_premise(2) == square_book((1, 0), (2, 1)))
        self.assertEqual(len(book), 3)
        for thing in NO_WHOLES + (-1, 3, 10 ** 30):
            self.refused(BadPlace, {}, book.without_premise, thing)
        self.refused(BadPlace, {}, Book(SQUARE, ()).without_premise, 0)

    def test_from_rings(self):
        found = Book.from_rings(SQUARE, [[[0, 0, 1, 1], 1], ((0, 1, 1, 0), 0)])
        self.assertTrue(found == Book(SQUARE, [(R, 1), (times(-1), 0)]))
        self.assertTrue(Book.from_rings(BARE, ()) == Book(BARE, ()))
        self.assertEqual(len(Book.from_rings(SQUARE, [((0, 0, 1, 1), 0)] * 10)), 10)
        for thing in NO_SEQUENCES + ([((0, 0, 1, 1), 0)] * 11, (None,) * 11):
            self.refused(BadBook, {"index": -1}, Book.from_rings, SQUARE, thing)
        good = ((0, 0, 1, 1), 0)
        for thing in NO_SEQUENCES + ((), ((0, 0, 1, 1),), (good[0], 0, 0), (R, 0), ((0, 0, 1, 2), 0),
                                     ((0, 0, 1), 1), (None, 0), (0, good[0])):
            self.refused(BadBook, {"index": 0}, Book.from_rings, SQUARE, [thing])
            self.refused(BadBook, {"index": 1}, Book.from_rings, SQUARE, (good, thing, None))
        for sign in NO_WHOLES + (2, -1):
            self.refused(BadBook, {"index": 1}, Book.from_rings, SQUARE, (good, (good[0], sign)))
        chances = a_random(211)
        for ring in some_rings(NINE, chances, 10):
            tour = [0] * 9
            for at, corner in enumerate(ring):
                behind = ring[(at + 1) % len(ring)]
                pair = (corner, behind) if at % 2 == 0 else (behind, corner)
                tour[NINE.pairs.index(pair)] += 1 if at % 2 == 0 else -1
            self.assertTrue(Book.from_rings(NINE, [(ring, 1)]) == Book(NINE, [(tour, 1)]))


class TestRows(Case):
    def test_lifted_and_lowered(self):
        self.exactly(lifted_row(SQUARE, [list(times(3)), 1]), (3, 1))
        self.exactly(lifted_row(BARE, ((), 1)), (1,))
        self.exactly(lowered_row(SQUARE, [3, -1]), (times(3), 1))
        self.exactly(lowered_row(SQUARE, (-GREAT, GREAT)), (times(-GREAT), 0))
        self.exactly(lowered_row(TREE, [7]), ((0, 0, 0), 1))
        chances = a_random(212)
        for picture in some_pictures():
            for tour in some_tours(picture, chances, 2):
                for sign in (0, 1):
                    row = lifted_row(picture, (tour, sign))
                    self.exactly(row, row_at(picture, tour) + (sign,))
                    self.exactly(lowered_row(picture, row), (tour, sign))
                    self.exactly(lowered_row(picture, row[:-1] + (sign - 4,)), (tour, sign))

    def test_wrong_rows_and_sayings(self):
        for thing in NO_SEQUENCES + ((), (1,), (1, 2, 3)):
            self.refused(BadRow, {}, lowered_row, SQUARE, thing)
        for thing in NO_WHOLES:
            self.refused(BadRow, {}, lowered_row, SQUARE, (thing, 0))
            self.refused(BadRow, {}, lowered_row, SQUARE, [1, thing])
        for saying, what in WRONG_SAYINGS:
            self.refused(BadSaying, {"what": what}, lifted_row, SQUARE, saying)

    def test_book_rows_and_lot(self):
        book = square_book((6, 1), (4, 0))
        self.exactly(book_rows(book), ((6, 1), (4, 0), (0, 2)))
        self.exactly(book.lot, ((2, 1), (0, 2)))
        self.exactly(book_rows(Book(BARE, ())), ((2,),))
        self.exactly(Book(BARE, [((), 1)]).lot, ((1,),))
        for book, _ in some_books(213):
            rows = [row_at(book.picture, tour) + (sign,) for tour, sign in book.premises]
            rows.append((0,) * len(basis_of(book.picture)) + (2,))
            self.exactly(book_rows(book), tuple(rows))
            self.exactly(book.lot, form_of(len(rows[-1]), rows))
            self.assertTrue(is_form(book.lot))


class TestPremiseSum(Case):
    def test_small(self):
        book = square_book((2, 1), (3, 0))
        self.exactly(premise_sum(book, [1, -2]), (times(-4), 1))
        self.exactly(premise_sum(book, (-2, GREAT)), (times(3 * GREAT - 4), 0))
        self.exactly(premise_sum(Book(SQUARE, ()), ()), (ZERO, 0))
        self.exactly(premise_sum(Book(BARE, [((), 1)]), [3]), ((), 1))

    def test_any_book(self):
        chances = a_random(214)
        for book, _ in some_books(214):
            numbers = [chances.randint(-9, 9) for _ in book.premises]
            self.exactly(premise_sum(book, numbers), added_up(book.picture, book.premises, numbers))

    def test_wrong_numbers(self):
        book = square_book((2, 1), (3, 0))
        for thing in NO_SEQUENCES + ((), (1,), (1, 2, 3)):
            self.refused(BadNumbers, {"index": -1}, premise_sum, book, thing)
        for thing in NO_WHOLES:
            self.refused(BadNumbers, {"index": 0}, premise_sum, book, (thing, None))
            self.refused(BadNumbers, {"index": 1}, premise_sum, book, [0, thing])


class TestDerivations(Case):
    def check_derivation(self, book, saying):
        """Check that numbers add up, and tell whether there are some."""
        found = derivation_of(book, saying)
        if found is None:
            return False
        self.is_tuples(found)
        self.assertEqual(len(found), len(book))
        self.exactly(added_up(book.picture, book.premises, found), (tuple(saying[0]), saying[1]))
        self.assertIsNone(derivation_fault(book, saying, found))
        return True

    def test_small(self):
        book = square_book((4, 0), (6, 1))
        self.assertTrue(self.check_derivation(book, [list(times(2)), 1]))
        self.assertFalse(self.check_derivation(book, (times(2), 0)))
        self.assertFalse(self.check_derivation(book, (times(1), 0)))
        self.exactly(derivation_of(Book(SQUARE, ()), (ZERO, 0)), ())
        self.exactly(derivation_of(Book(BARE, ()), ([], 0)), ())
        self.assertIsNone(derivation_of(Book(SQUARE, ()), (ZERO, 1)))
        self.assertIsNone(derivation_of(Book(SQUARE, ()), (R, 0)))

    def test_contrary_books(self):
        self.assertTrue(self.check_derivation(square_book((2, 1), (1, 0)), (ZERO, 1)))
        self.assertTrue(self.check_derivation(square_book((3, 1), (3, 0)), (ZERO, 1)))
        self.assertTrue(self.check_derivation(Book(BARE, [((), 1)]), ((), 1)))
        self.assertFalse(self.check_derivation(square_book((2, 1), (4, 0)), (ZERO, 1)))
        self.assertFalse(self.check_derivation(square_book((2, 1), (2, 1)), (ZERO, 1)))

    def test_exactly_if_the_row_is_in_the_lot(self):
        seen = []
        for book, saying in some_books(215, many=30):
            row = row_at(book.picture, saying[0]) + (saying[1],)
            seen.append(self.check_derivation(book, saying))
            self.assertIs(seen[-1], in_form(book.lot, row))
        self.assertGreater(seen.count(True), 30)
        self.assertGreater(seen.count(False), 30)

    def test_against_all_small_numbers(self):
        for book, saying in some_books(216):
            if len(book) < 3:
                sums = [added_up(book.picture, book.premises, numbers)
                        for numbers in product(range(-4, 5), repeat=len(book))]
                if saying in sums:
                    self.assertTrue(self.check_derivation(book, saying))

    def test_derivation_fault(self):
        book = square_book((2, 1), (3, 0))
        self.assertIsNone(derivation_fault(book, (R, 1), (-1, 1)))
        self.assertIsNone(derivation_fault(book, [list(R), 1], [3 * GREAT - 1, 1 - 2 * GREAT]))
        self.assertIsNone(derivation_fault(book, (R, 0), [2, -1]))
        for thing in NO_SEQUENCES + ((), (1,), (1, 2, 3), (None,)):
            self.assertEqual(derivation_fault(book, (R, 1), thing), "length")
        for thing in NO_WHOLES:
            self.assertEqual(derivation_fault(book, (R, 1), (thing, 1)), "number")
            self.assertEqual(derivation_fault(book, (R, 1), [7, thing]), "number")
        self.assertEqual(derivation_fault(book, (R, 1), (1, 1)), "tour")
        self.assertEqual(derivation_fault(book, (R, 0), (1, 1)), "tour")
        self.assertEqual(derivation_fault(book, (R, 0), (-1, 1)), "sign")
        self.assertEqual(derivation_fault(book, (R, 1), (2, -1)), "sign")

    def test_least_often(self):
        self.exactly(least_often(square_book((3, 0)), (R, 0)), 3)
        self.exactly(least_often(square_book((3, 0)), [R, 1]), 6)
        self.exactly(least_often(square_book((3, 0)), (ZERO, 0)), 1)
        self.exactly(least_often(square_book((3, 0)), (ZERO, 1)), 2)
        self.exactly(least_often(Book(SQUARE, ()), (R, 0)), 0)
        self.exactly(least_often(square_book((0, 1)), (R, 1)), 0)
        self.exactly(least_often(square_book((GREAT, 1)), (R, 0)), 2 * GREAT)
        self.exactly(least_often(Book(BARE, ()), ((), 1)), 2)
        for book, saying in some_books(217):
            found = least_often(book, saying)
            self.is_tuples(found)
            row = row_at(book.picture, saying[0]) + (saying[1],)
            least = 0
            for often in range(1, found + 1 if 0 < found < 200 else 200):
                if in_form(book.lot, [often * number for number in row]):
                    least = often
                    break
            if found < 200:
                self.assertEqual(found, least)

    def test_the_saying_is_checked(self):
        book = square_book((2, 1), (3, 0))
        for saying, what in WRONG_SAYINGS:
            told = {"what": what}
            self.refused(BadSaying, told, derivation_of, book, saying)
            self.refused(BadSaying, told, derivation_fault, book, saying, None)
            self.refused(BadSaying, told, least_often, book, saying)

    def test_nothing_passed_in_is_changed(self):
        saying, numbers = [[2, -2, -2, 2], 0], [1, 2]
        book = Book(SQUARE, [saying, saying])
        derivation_of(book, saying)
        least_often(book, saying)
        derivation_fault(book, saying, numbers)
        premise_sum(book, numbers)
        lifted_row(SQUARE, saying)
        book.with_premise(saying)
        self.assertEqual((saying, numbers), ([[2, -2, -2, 2], 0], [1, 2]))

    @in_good_time
    def test_great_numbers(self):
        chances = a_random(218)
        picture = full_picture(5, 5)
        for bound in (9, 10 ** 9, 10 ** 100, 10 ** 298):
            premises = [(tour, chances.randint(0, 1)) for tour in some_tours(picture, chances, 10, bound)]
            book = Book(picture, premises)
            numbers = [chances.randint(-9, 9) for _ in premises]
            self.assertTrue(self.check_derivation(book, added_up(picture, premises, numbers)))
            self.assertFalse(self.check_derivation(book, (some_tours(picture, chances, 1)[0], 0)))


if __name__ == "__main__":
    unittest.main()
