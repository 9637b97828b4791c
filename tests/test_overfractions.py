"""What follows over the fractions [5.8]."""

import unittest
from fractions import Fraction
from itertools import product

from sheetproofs.books import Book, least_often
from sheetproofs.errors import BadSaying
from sheetproofs.everyprime import NoTable, fold_fault, prime_rule
from sheetproofs.overfractions import FractionDerivation, KeptTable, follows_fractions, kept_fault
from sheetproofs.pictures import full_picture
from tests.bookshelf import (BARE, R, SQUARE, TREE, added_up, basis_of, row_at, some_books, square_book,
                             times)
from tests.helpers import NO_SEQUENCES, NO_WHOLES, Case, a_random, in_good_time, some_tours
from tests.test_everyprime import minus
from tests.test_sayings import WRONG as WRONG_SAYINGS

ZERO = (0, 0, 0, 0)


def holds(saying, signs, exponents):
    """Tell whether a saying holds in the table over the fractions, by the worth of its tour."""
    worth = Fraction(1)
    for number, sign, exponent in zip(saying[0], signs, exponents):
        worth *= ((-1) ** sign * Fraction(2) ** exponent) ** number
    return worth == (-1) ** saying[1]


class FractionCase(Case):
    def check_answer(self, book, saying):
        """Check what is returned by what it must mean, and return its class."""
        found = follows_fractions(book, saying)
        picture, premises = book.picture, book.premises
        asked = (tuple(saying[0]), saying[1])
        if isinstance(found, KeptTable):
            self.is_tuples((found.signs, found.exponents))
            self.assertEqual((len(found.signs), len(found.exponents)), (len(picture), len(picture)))
            self.assertIsNone(kept_fault(book, saying, found.signs, found.exponents))
            if max([abs(n) for n in found.exponents], default=0) < 100:
                self.assertTrue(all(holds(premise, found.signs, found.exponents) for premise in premises))
                self.assertFalse(holds(asked, found.signs, found.exponents))
            return KeptTable
        self.is_tuples((found.part, found.numbers))
        if isinstance(found, NoTable):
            self.exactly(added_up(picture, premises, found.numbers, found.part, 2), minus(picture))
            self.assertIsNone(fold_fault(book, minus(picture), 2, found.part, found.numbers))
            return NoTable
        self.assertIsInstance(found, FractionDerivation)
        self.is_tuples((found.often, found.sums))
        self.exactly(added_up(picture, premises, found.numbers, found.part, 2), asked)
        self.assertEqual(found.often, least_often(book, saying))
        self.exactly(added_up(picture, premises, found.sums),
                     (times(found.often, asked[0]), found.often * asked[1] % 2))
        return FractionDerivation


class TestFollowsFractions(FractionCase):
    def test_example(self):
        self.assertIs(self.check_answer(square_book((3, 0)), (R, 0)), FractionDerivation)

    def test_small(self):
        self.assertIs(self.check_answer(Book(SQUARE, ()), (R, 0)), KeptTable)
        self.assertIs(self.check_answer(Book(SQUARE, ()), (times(2), 0)), KeptTable)
        self.assertIs(self.check_answer(Book(SQUARE, ()), (ZERO, 0)), FractionDerivation)
        self.assertIs(self.check_answer(Book(SQUARE, ()), (ZERO, 1)), KeptTable)
        self.assertIs(self.check_answer(square_book((2, 1)), (R, 0)), NoTable)
        self.assertIs(self.check_answer(square_book((4, 1)), (R, 0)), NoTable)
        self.assertIs(self.check_answer(square_book((3, 1)), (R, 1)), FractionDerivation)
        self.assertIs(self.check_answer(square_book((3, 1)), (R, 0)), KeptTable)
        self.assertIs(self.check_answer(square_book((4, 0)), (R, 0)), KeptTable)
        self.assertIs(self.check_answer(square_book((4, 0)), [list(times(2)), 0]), FractionDerivation)
        self.assertIs(self.check_answer(square_book((1, 0), (1, 1)), (R, 0)), NoTable)

    def test_pictures_without_rings(self):
        for picture in (BARE, TREE):
            tour = (0,) * len(picture)
            self.assertIs(self.check_answer(Book(picture, ()), (tour, 0)), FractionDerivation)
            self.assertIs(self.check_answer(Book(picture, ()), (tour, 1)), KeptTable)
            self.assertIs(self.check_answer(Book(picture, [(tour, 1)]), (tour, 0)), NoTable)

    def test_against_many_tables(self):
        seen = {NoTable: 0, FractionDerivation: 0, KeptTable: 0}
        for book, saying in some_books(251, many=25):
            found = self.check_answer(book, saying)
            seen[found] += 1
            rows = [(row_at(book.picture, tour), sign) for tour, sign in book.premises]
            asked = row_at(book.picture, saying[0]), saying[1]
            width = len(asked[0])
            if width > 2:
                continue
            # Signs and exponents at the pairs that are no tree pairs give all figures of such tables.
            for signs in product((0, 1), repeat=width):
                for exponents in product(range(-3, 4), repeat=width):
                    if all(holds(row, signs, exponents) for row in rows):
                        self.assertIsNot(found, NoTable)
                        self.assertTrue(found is KeptTable or holds(asked, signs, exponents))
        self.assertGreater(min(seen.values()), 15)

    def test_the_rule_decides(self):
        for book, saying in some_books(252, many=8):
            rule = prime_rule(book, saying)
            word = dict(rule.words)[2]
            if word == "none":
                wanted = NoTable
            else:
                wanted = FractionDerivation if word == "follows" and rule.span == 0 else KeptTable
            self.assertIs(self.check_answer(book, saying), wanted)

    def test_the_saying_is_checked(self):
        for saying, what in WRONG_SAYINGS:
            self.refused(BadSaying, {"what": what}, follows_fractions, square_book((1, 0)), saying)
            self.refused(BadSaying, {"what": what}, kept_fault, square_book((1, 0)), saying, None, None)

    @in_good_time
    def test_ten_premises_with_great_numbers(self):
        chances = a_random(253)
        picture = full_picture(5, 5)
        for bound in (2, 9, 10 ** 30, 10 ** 298):
            premises = [(tour, chances.randint(0, 1)) for tour in some_tours(picture, chances, 10, bound)]
            book = Book(picture, premises)
            self.check_answer(book, (some_tours(picture, chances, 1, bound)[0], 1))
            self.check_answer(book, added_up(picture, premises, [5] * 10))


class TestKeptFault(Case):
    def test_words(self):
        book = square_book((2, 0))
        self.assertIsNone(kept_fault(book, (R, 0), (0, 0, 0, 1), (0, 0, 0, 0)))
        self.assertIsNone(kept_fault(book, [list(R), 0], [1, 1, 1, 0], [10 ** 299, 10 ** 299, 5, 5]))
        self.assertIsNone(kept_fault(Book(SQUARE, ()), (times(2), 0), (0, 0, 0, 0), [0, 0, 0, -1]))
        for thing in NO_SEQUENCES + ((), (0, 0, 0), (0, 0, 0, 0, 0), (0, 0, 0, 2), (0, 0, 0, -1)):
            self.assertEqual(kept_fault(book, (R, 0), thing, None), "signs")
        for thing in NO_SEQUENCES + ((), (0, 0, 0), (0, 0, 0, 0, 0)):
            self.assertEqual(kept_fault(book, (R, 0), (0, 0, 0, 0), thing), "exponents")
        for thing in NO_WHOLES:
            self.assertEqual(kept_fault(book, (R, 0), (0, thing, 0, 0), None), "signs")
            self.assertEqual(kept_fault(book, (R, 0), (0, 0, 0, 0), [0, thing, 0, 0]), "exponents")
        self.assertEqual(kept_fault(book, (R, 0), (0, 0, 0, 0), (0, 0, 0, 1)), "premise")
        self.assertEqual(kept_fault(square_book((2, 0), (1, 1)), (R, 0), (0, 0, 0, 0), ZERO), "premise")
        self.assertEqual(kept_fault(square_book((2, 1)), (R, 0), (0, 0, 0, 1), ZERO), "premise")
        self.assertEqual(kept_fault(book, (R, 0), (0, 0, 0, 0), ZERO), "kept")
        self.assertEqual(kept_fault(book, (R, 1), (0, 1, 0, 0), (1, 1, 2, 2)), "kept")
        self.assertIsNone(kept_fault(Book(BARE, ()), ((), 1), (), []))
        self.assertEqual(kept_fault(Book(BARE, ()), ((), 0), (), []), "kept")

    def test_against_the_worths(self):
        chances = a_random(254)
        seen = {None: 0, "premise": 0, "kept": 0}
        for book, saying in some_books(254):
            basis = basis_of(book.picture)
            for _ in range(6):
                signs = [chances.randint(0, 1) for _ in book.picture.pairs]
                exponents = [chances.choice((0, 0, 0, 1, -2)) if place in basis else 0
                             for place in range(len(book.picture))]
                found = kept_fault(book, saying, signs, exponents)
                if not all(holds(premise, signs, exponents) for premise in book.premises):
                    wanted = "premise"
                else:
                    wanted = "kept" if holds(saying, signs, exponents) else None
                self.assertEqual(found, wanted)
                seen[found] += 1
        self.assertGreater(min(seen.values()), 20)

    def test_results(self):
        self.check_result(FractionDerivation, "part numbers often sums")
        self.check_result(KeptTable, "signs exponents")


if __name__ == "__main__":
    unittest.main()
