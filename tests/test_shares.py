"""Tellings, cheapest fractions and cheapest whole numbers [10.3 to 10.5, 10.1, 10.10]."""

import unittest
from fractions import Fraction
from itertools import combinations, product

from sheetproofs.books import Book
from sheetproofs.errors import BadMost, BadPrices, BadSaying, BadTelling, BadTour, TooMany
from sheetproofs.pictures import Picture, full_picture
from sheetproofs.shares import NoShares, Shares, Whole, cheapest_shares, cheapest_whole, shares_fault, tell_of
from tests.bookshelf import (BARE, NINE, R, SQUARE, TREE, WIDE, added_up, row_at, some_books, square_book, times,
                             tour_with)
from tests.helpers import NO_SEQUENCES, NO_WHOLES, Case, a_random, in_good_time, some_pictures, some_tours
from tests.linear import FRACTIONS, number, rank
from tests.test_fields import NO_FRACTIONS
from tests.test_sayings import WRONG as WRONG_SAYINGS
from tests.test_tables import BAD_TOURS

HALF, ZERO, ONE = (1, 2), (0, 1), (1, 1)


def told(telling, row):
    """Return what a telling tells of the row of a tour."""
    return sum((Fraction(*part) * n for part, n in zip(telling, row)), Fraction(0))


def solved(rows, row):
    """Return the weights with which unbound rows sum to the row, or None."""
    left = [[Fraction(other[at]) for other in rows] + [Fraction(row[at])] for at in range(len(row))]
    done = []
    for at in range(len(rows)):
        lead = next(equation for equation in left if equation[at])
        left.remove(lead)
        lead = [n / lead[at] for n in lead]
        left, done = [[[a - other[at] * b for a, b in zip(other, lead)] for other in some] for some in (left, done)]
        done.append(lead)
    return None if any(equation[-1] for equation in left) else [equation[-1] for equation in done]


def least_price(rows, row, prices):
    """Return the least price by all unbound choices of the rows, or None."""
    best = None
    for size in range(len(rows) + 1):
        for choice in combinations(range(len(rows)), size):
            some = [rows[place] for place in choice]
            if rank(FRACTIONS, [[(n, 1) for n in other] for other in some]) == size:
                weights = solved(some, row)
                if weights is not None:
                    price = sum(abs(weight) * prices[place] for weight, place in zip(weights, choice))
                    best = price if best is None else min(best, price)
    return best


class SharesCase(Case):
    def check(self, book, prices, saying):
        """Check what is returned, and return the price, or None for no shares."""
        rows = [row_at(book.picture, tour) for tour, _ in book.premises]
        row = row_at(book.picture, saying[0])
        found = cheapest_shares(book, prices, saying)
        self.is_tuples(found.telling)
        self.assertEqual(len(found.telling), len(row))
        self.assertEqual([FRACTIONS.check_number(part) for part in found.telling], list(found.telling))
        self.assertIsNone(shares_fault(book, prices, saying, found))
        if isinstance(found, NoShares):
            self.assertEqual([told(found.telling, other) for other in rows], [0] * len(rows))
            self.assertEqual(told(found.telling, row), 1)
            return None
        self.assertIsInstance(found, Shares)
        self.is_tuples((found.price, found.parts))
        self.assertEqual([FRACTIONS.check_number(part) for part in found.parts + (found.price,)],
                         list(found.parts) + [found.price])
        self.assertEqual(len(found.parts), len(rows))
        for at, n in enumerate(row):
            self.assertEqual(sum(Fraction(*part) * other[at] for part, other in zip(found.parts, rows)), n)
        price = sum(abs(Fraction(*part)) * told for part, told in zip(found.parts, prices))
        self.assertEqual(found.price, number(FRACTIONS, Fraction(price)))
        for other, most in zip(rows, prices):
            self.assertLessEqual(abs(told(found.telling, other)), most)
        self.assertEqual(told(found.telling, row), price)
        return price


class TestTellOf(Case):
    def test_small(self):
        self.exactly(tell_of(SQUARE, [HALF], R), HALF)
        self.exactly(tell_of(SQUARE, [(-2, 3)], list(times(3))), (-2, 1))
        self.exactly(tell_of(WIDE, (HALF, (1, 3)), (1, 0, -1, -1, 0, 1)), (1, 3))
        self.exactly(tell_of(WIDE, (HALF, (1, 3)), (-2, 1, 1, 2, -1, -1)), (-5, 6))
        self.exactly(tell_of(BARE, (), ()), ZERO)
        self.exactly(tell_of(TREE, [], (0, 0, 0)), ZERO)

    def test_any_picture(self):
        chances = a_random(651)
        for picture in some_pictures():
            for tour in some_tours(picture, chances, 2):
                row = row_at(picture, tour)
                telling = [number(FRACTIONS, Fraction(chances.randint(-9, 9), chances.randint(1, 9))) for _ in row]
                self.exactly(tell_of(picture, telling, tour), number(FRACTIONS, told(telling, row)))

    def test_errors_in_their_order(self):
        for thing in NO_SEQUENCES + ((), (ONE, ONE), [1], HALF, [[1, 2]]) + tuple([part] for part in NO_FRACTIONS):
            self.refused(BadTelling, {}, tell_of, SQUARE, thing, None)
        for tour, what in BAD_TOURS:
            self.refused(BadTour, {"what": what}, tell_of, SQUARE, [HALF], tour)


class TestCheapestShares(SharesCase):
    def test_example(self):
        found = cheapest_shares(square_book((2, 0), (3, 0), (1, 0)), (1, 1, 1), (R, 0))
        self.assertTrue(found == Shares((1, 3), ((0, 1), (1, 3), (0, 1)), ((1, 3),)))

    def test_small(self):
        book = square_book((2, 0), (3, 0), (1, 0))
        self.assertEqual(self.check(book, [2, 7, 3], (R, 0)), 1)
        self.assertEqual(self.check(book, [2, 3, 20], (times(-5), 1)), 5)
        self.assertEqual(self.check(book, (20, 20, 1), (R, 1)), 1)
        self.assertEqual(self.check(book, (20, 20, 20), (times(0), 1)), 0)
        self.assertIsNone(self.check(square_book((0, 0), (0, 1)), (1, 20), (R, 0)))
        self.assertIsNone(self.check(square_book(), (), (times(7), 0)))
        self.assertEqual(self.check(square_book(), [], (times(0), 0)), 0)
        self.assertEqual(self.check(Book(BARE, [((), 1)]), (5,), ((), 0)), 0)
        self.assertEqual(self.check(Book(TREE, ()), (), ((0, 0, 0), 1)), 0)

    def test_mixtures_are_cheaper(self):
        # Of three tours on two basis tours, each two make the third one.
        tours = ((1, -1, 0, -1, 1, 0), (1, 0, -1, -1, 0, 1), (-2, 1, 1, 2, -1, -1))
        book = Book(WIDE, [(tour, 0) for tour in tours])
        self.assertEqual(self.check(book, (1, 1, 1), (tours[2], 0)), 1)
        self.assertEqual(self.check(book, (1, 1, 3), (tours[2], 0)), 2)
        self.assertEqual(self.check(book, (5, 1, 3), (tours[0], 0)), 4)
        self.assertEqual(self.check(book.without_premise(0), (1, 3), (tours[0], 0)), 4)
        self.assertIsNone(self.check(book.without_premise(0).without_premise(0), (1,), (tours[0], 0)))

    def test_against_all_choices(self):
        chances = a_random(652)
        seen = [0, 0]
        for book, saying in some_books(653, (SQUARE, WIDE, NINE), 25):
            for _ in range(2):
                prices = [chances.choice((1, 20, chances.randint(1, 20))) for _ in book.premises]
                if chances.random() < 0.5 and len(book):
                    saying = added_up(book.picture, book.premises, [chances.randint(-2, 2) for _ in book.premises])
                rows = [row_at(book.picture, tour) for tour, _ in book.premises]
                wanted = least_price(rows, row_at(book.picture, saying[0]), prices)
                self.assertEqual(self.check(book, prices, saying), wanted)
                seen[wanted is not None] += 1
        self.assertGreater(min(seen), 20)

    def test_many_premises_on_few_pairs(self):
        chances = a_random(654)
        for picture in (WIDE, NINE, full_picture(3, 4), full_picture(2, 5)):
            for bound in (1, 3, 50):
                for _ in range(6):
                    book = Book(picture, [(tour, 0) for tour in some_tours(picture, chances, 10, bound)])
                    prices = [chances.randint(1, 20) for _ in range(10)]
                    saying = (some_tours(picture, chances, 1, bound)[0], 0)
                    price = self.check(book, prices, saying)
                    if picture == WIDE:
                        rows = [row_at(picture, tour) for tour, _ in book.premises]
                        self.assertEqual(price, least_price(rows, row_at(picture, saying[0]), prices))

    def test_ties(self):
        # Equal premises, premises turned round and premises of zeros at equal prices.
        tours = ((1, -1, 0, -1, 1, 0), (1, 0, -1, -1, 0, 1))
        for some in product((1, -1, 0, 2), repeat=4):
            premises = [(times(k, tours[at % 2]), 0) for at, k in enumerate(some)]
            book = Book(WIDE, premises)
            rows = [row_at(WIDE, tour) for tour, _ in premises]
            for saying in ((tours[0], 0), (added_up(WIDE, premises, (1, 1, 1, -1))[0], 0)):
                self.assertEqual(self.check(book, (2, 2, 2, 2), saying),
                                 least_price(rows, row_at(WIDE, saying[0]), (2, 2, 2, 2)))

    @in_good_time
    def test_no_end_of_changes_that_gain_nothing(self):
        # The tour of zeros needs no part at all; here one can go round from none to none without end.
        rows = ((-1, -3, 3, 2, 1, 2), (2, -1, -2, -3, -2, -1), (-1, 3, -1, 3, 1, -3), (-2, -3, 2, 0, 3, -2),
                (-2, 2, -3, 1, 1, 2), (3, 2, 1, 2, 0, 0), (-2, 0, 0, 1, 1, -2), (-1, 0, -1, -3, 1, -1),
                (-2, 0, -3, -2, -3, -1))
        picture = full_picture(3, 4)
        book = Book(picture, [(tour_with(picture, row), 0) for row in rows])
        self.assertEqual(self.check(book, (19, 20, 2, 2, 1, 11, 1, 1, 1), ((0,) * 12, 0)), 0)
        rows = ((-1, 2, -3), (-4, 0, 0), (-1, 0, 2), (-5, 5, -1), (5, -3, 4), (3, 2, -5), (-5, 5, -2), (-1, 3, 4))
        picture = full_picture(2, 4)
        book = Book(picture, [(tour_with(picture, row), 0) for row in rows])
        self.assertEqual(self.check(book, (19, 16, 11, 1, 2, 1, 17, 8), ((0,) * 8, 0)), 0)
        chances = a_random(659)
        for _ in range(300):
            picture = chances.choice((picture, NINE, full_picture(3, 4)))
            rows = [[chances.randint(-3, 3) for _ in row_at(picture, (0,) * len(picture))] for _ in range(9)]
            book = Book(picture, [(tour_with(picture, row), 0) for row in rows])
            prices = [chances.choice((1, 1, 2, chances.randint(1, 20))) for _ in rows]
            found = cheapest_shares(book, prices, ((0,) * len(picture), 0))
            self.assertEqual((found.price, found.parts), (ZERO, (ZERO,) * 9))

    @in_good_time
    def test_ten_premises_with_great_numbers(self):
        chances = a_random(655)
        five = full_picture(5, 5)
        for picture in (five, NINE, Picture(5, 5, five.pairs[:18])):
            for bound in (2, 10 ** 30, 10 ** 100):
                book = Book(picture, [(tour, 0) for tour in some_tours(picture, chances, 10, bound)])
                prices = [chances.randint(1, 20) for _ in range(10)]
                numbers = [chances.randint(-5, 5) for _ in range(10)]
                self.assertIsNotNone(self.check(book, prices, added_up(picture, book.premises, numbers)))
                self.check(book, prices, (some_tours(picture, chances, 1, bound)[0], 1))

    def test_errors_in_their_order(self):
        book = square_book((2, 0), (3, 0))
        for function, more in ((cheapest_shares, ()), (shares_fault, (None,)), (cheapest_whole, (None,))):
            for thing in NO_SEQUENCES + ((), (1,), (1, 1, 1)):
                self.refused(BadPrices, {"index": -1}, function, book, thing, None, *more)
            for thing in NO_WHOLES + (0, 21, -1, 10 ** 30):
                self.refused(BadPrices, {"index": 0}, function, book, (thing, None), None, *more)
                self.refused(BadPrices, {"index": 1}, function, book, [20, thing], None, *more)
            for saying, what in WRONG_SAYINGS:
                self.refused(BadSaying, {"what": what}, function, book, (1, 20), saying, *more)

    def test_nothing_passed_in_is_changed(self):
        prices, saying = [1, 2], [list(R), 0]
        cheapest_shares(square_book((2, 0), (3, 0)), prices, saying)
        cheapest_whole(square_book((2, 0), (3, 0)), prices, saying, 1)
        self.assertEqual((prices, saying), ([1, 2], [[1, -1, -1, 1], 0]))

    def test_results(self):
        self.check_result(Shares, "price parts telling")
        self.check_result(NoShares, "telling")
        self.check_result(Whole, "price numbers")


class TestSharesFault(Case):
    BOOK = square_book((2, 0), (3, 0), (1, 0))

    def fault(self, price, parts, telling, prices=(1, 1, 1), saying=(R, 0)):
        return shares_fault(self.BOOK, prices, saying, Shares(price, parts, telling))

    def test_right(self):
        self.assertIsNone(self.fault((1, 3), (ZERO, (1, 3), ZERO), [(1, 3)]))
        self.assertIsNone(self.fault((1, 3), [ZERO, (1, 3), ZERO], ((1, 3),)))
        # Of several right parts, any.
        for parts in ((HALF, ZERO, ZERO), (ZERO, ZERO, ONE), ((1, 4), ZERO, HALF), ((-1, 2), ZERO, (2, 1))):
            due = 2 * abs(Fraction(*parts[0])) + Fraction(*parts[2])
            fault = self.fault(number(FRACTIONS, due), parts, [ONE], (2, 20, 1))
            self.assertEqual(fault, None if due == 1 else "telling")

    def test_parts(self):
        for thing in NO_SEQUENCES + ((), (ZERO, ONE), (ZERO, ZERO, ONE, ZERO), (0, 0, 1)):
            self.assertEqual(self.fault(None, thing, None), "parts")
        for thing in NO_FRACTIONS:
            self.assertEqual(self.fault(None, (ZERO, thing, ONE), None), "parts")
        self.assertEqual(self.fault((1, 3), (ZERO, (1, 2), ZERO), [(1, 3)]), "parts")
        self.assertEqual(self.fault((1, 3), (ZERO, (-1, 3), ZERO), [(1, 3)]), "parts")

    def test_price(self):
        for thing in NO_FRACTIONS + ((1, 2), (-1, 3), (True, 3), [1, 3], (2, 6), "1/3"):
            self.assertEqual(self.fault(thing, (ZERO, (1, 3), ZERO), None), "price")
        self.assertEqual(self.fault((1, 3), (ZERO, (1, 3), ZERO), [(1, 3)], (1, 2, 1)), "price")
        self.assertEqual(self.fault((True, 1), (ZERO, ZERO, ONE), [ONE], (2, 20, 1)), "price")

    def test_telling(self):
        good = (ZERO, (1, 3), ZERO)
        for thing in NO_SEQUENCES + ((), ((1, 3), ZERO), (1, 3)) + tuple([part] for part in NO_FRACTIONS):
            self.assertEqual(self.fault((1, 3), good, thing), "telling")
        for part in ((-1, 3), (1, 4), (1, 2), ZERO):
            self.assertEqual(self.fault((1, 3), good, [part]), "telling")
        # These parts are dearer than need be, so what tells their price tells too much of a premise.
        self.assertEqual(self.fault((1, 2), (HALF, ZERO, ZERO), [HALF]), "telling")
        self.assertEqual(self.fault((1, 1), (ZERO, ZERO, ONE), [ONE]), "telling")
        # At most the price of each premise, of either sign.
        book = square_book((-2, 0), (1, 0))
        found = Shares(ONE, (ZERO, ONE), [ONE])
        self.assertIsNone(shares_fault(book, (2, 1), (R, 0), found))
        self.assertEqual(shares_fault(book, (1, 1), (R, 0), found), "telling")

    def test_no_shares(self):
        tours = ((1, -1, 0, -1, 1, 0), (1, 0, -1, -1, 0, 1))
        book, saying = Book(WIDE, [(tours[0], 0)]), (tours[1], 1)
        self.assertIsNone(shares_fault(book, [1], saying, NoShares((ZERO, ONE))))
        self.assertIsNone(shares_fault(book, [20], saying, NoShares([ZERO, ONE])))
        for thing in NO_SEQUENCES + ((), [ONE], [ZERO, ONE, ZERO], [ZERO, HALF], [ONE, ONE], [ZERO, (-1, 1)],
                                     [ZERO, (2, 1)], [(-1, 20), ONE], [0, 1]):
            self.assertEqual(shares_fault(book, [20], saying, NoShares(thing)), "telling")
        self.assertEqual(shares_fault(self.BOOK, (1, 1, 1), (R, 0), NoShares([ONE])), "telling")
        self.assertEqual(shares_fault(self.BOOK, (1, 1, 1), (times(0), 0), NoShares([ZERO])), "telling")
        self.assertEqual(shares_fault(book, [1], saying, Shares(ZERO, (ZERO,), [ZERO, ONE])), "parts")


class TestCheapestWhole(Case):
    def check(self, book, prices, saying, most):
        """Check what is returned against all rows of numbers, and return the price or None."""
        best = None
        for numbers in product(range(-most, most + 1), repeat=len(book)):
            if added_up(book.picture, book.premises, numbers) == (tuple(saying[0]), saying[1]):
                price = sum(abs(n) * told for n, told in zip(numbers, prices))
                if best is None or price < best[0]:
                    best = price, numbers
        found = cheapest_whole(book, prices, saying, most)
        if best is None:
            self.assertIsNone(found)
            return None
        self.assertIsInstance(found, Whole)
        self.exactly((found.price, found.numbers), best)
        return best[0]

    def test_example(self):
        found = cheapest_whole(square_book((2, 0), (3, 0), (1, 0)), (1, 1, 1), (R, 0), 1)
        self.assertTrue(found == Whole(1, (0, 0, 1)))

    def test_small(self):
        book = square_book((2, 0), (3, 1))
        self.assertTrue(cheapest_whole(book, [4, 5], [list(R), 1], 1) == Whole(9, (-1, 1)))
        self.assertIsNone(cheapest_whole(book, [4, 5], (R, 0), 3))
        self.assertIsNone(cheapest_whole(book, [4, 5], (times(6), 0), 1))
        self.assertTrue(cheapest_whole(book, [4, 5], (times(6), 0), 3) == Whole(10, (0, 2)))
        self.assertTrue(cheapest_whole(book, [3, 5], (times(6), 0), 3) == Whole(9, (3, 0)))
        self.assertTrue(cheapest_whole(book, (1, 1), (times(0), 0), 0) == Whole(0, (0, 0)))
        self.assertIsNone(cheapest_whole(book, (1, 1), (times(0), 1), 0))
        self.assertTrue(cheapest_whole(square_book(), (), (times(0), 0), 3) == Whole(0, ()))
        self.assertIsNone(cheapest_whole(square_book(), (), (times(0), 1), 3))
        # Of rows with one price, the first one.
        self.assertTrue(cheapest_whole(square_book((1, 0), (-1, 0)), (1, 1), (R, 0), 2) == Whole(1, (0, -1)))
        self.assertTrue(cheapest_whole(square_book((1, 0), (2, 0)), (1, 2), (times(2), 0), 2) == Whole(2, (0, 1)))
        self.assertTrue(cheapest_whole(Book(BARE, [((), 1)]), (1,), ((), 1), 1) == Whole(1, (-1,)))

    def test_any_book(self):
        chances = a_random(656)
        seen = [0, 0]
        for book, saying in some_books(657, many=10):
            for most in (0, 1, 2):
                prices = [chances.randint(1, 20) for _ in book.premises]
                if chances.random() < 0.7:
                    saying = added_up(book.picture, book.premises, [chances.randint(-most, most)
                                                                    for _ in book.premises])
                seen[self.check(book, prices, saying, most) is None] += 1
        self.assertGreater(min(seen), 10)

    @in_good_time
    def test_five_premises_and_more(self):
        chances = a_random(658)
        five = full_picture(5, 5)
        book = Book(five, [(tour, 1) for tour in some_tours(five, chances, 5, 10 ** 298)])
        saying = added_up(five, book.premises, (3, -3, 0, 2, -1))
        self.assertTrue(cheapest_whole(book, (20, 1, 1, 20, 7), saying, 3) == Whole(110, (3, -3, 0, 2, -1)))
        self.assertIsNone(cheapest_whole(book, (20, 1, 1, 20, 7), saying, 2))
        six = book.with_premise(saying)
        self.refused(TooMany, {"most": 5}, cheapest_whole, six, None, None, None)

    def test_errors(self):
        for thing in NO_WHOLES + (-1, 4, 10 ** 30):
            self.refused(BadMost, {}, cheapest_whole, square_book((2, 0)), (1,), (R, 0), thing)


if __name__ == "__main__":
    unittest.main()
