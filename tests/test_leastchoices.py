"""Needed premises, least choices and least breaks [10.2, 10.1, 10.10]."""

import unittest
from itertools import combinations

from sheetproofs.books import Book
from sheetproofs.errors import BadSaying, NotDerived, TooMany
from sheetproofs.leastchoices import least_breaks, least_choices, needed_places
from sheetproofs.pictures import Picture, full_picture
from tests.bookshelf import BARE, R, SQUARE, added_up, row_at, some_books, square_book, times
from tests.helpers import Case, a_random, in_good_time, some_tours
from tests.lattices import in_form
from tests.test_sayings import WRONG as WRONG_SAYINGS


def derives(book, choice, saying):
    """Tell whether the premises of a choice alone derive the saying."""
    lot = Book(book.picture, [book.premises[place] for place in choice]).lot
    return in_form(lot, row_at(book.picture, saying[0]) + (saying[1],))


def all_choices(many):
    """Return all choices, by size and then in their order."""
    return [choice for size in range(many + 1) for choice in combinations(range(many), size)]


def least_of(choices):
    """Return those choices of which no proper part is among them."""
    return tuple(choice for choice in choices if not any(set(other) < set(choice) for other in choices))


class TestLeast(Case):
    def check(self, book, saying):
        """Check all three against all choices of premises, and return the numbers of what is found."""
        many = len(book)
        good = [choice for choice in all_choices(many) if derives(book, choice, saying)]
        breaks = [choice for choice in all_choices(many)
                  if not derives(book, [k for k in range(many) if k not in choice], saying)]
        choices = least_choices(book, saying)
        self.exactly(choices, least_of(good))
        self.exactly(least_breaks(book, saying), least_of(breaks))
        self.exactly(needed_places(book, saying),
                     tuple(k for k in range(many) if all(k in choice for choice in choices)))
        return len(choices), len(least_breaks(book, saying)), len(needed_places(book, saying))

    def test_example(self):
        book = square_book((2, 0), (3, 0), (1, 0))
        self.exactly(least_choices(book, (R, 0)), ((2,), (0, 1)))
        self.exactly(least_breaks(book, [list(R), 0]), ((0, 2), (1, 2)))
        self.exactly(needed_places(book, (R, 0)), ())

    def test_no_premise_is_needed(self):
        for book in (square_book(), square_book((1, 0), (1, 1)), Book(SQUARE, [(times(0), 0)] * 8)):
            self.exactly(least_choices(book, (times(0), 0)), ((),))
            self.exactly(least_breaks(book, (times(0), 0)), ())
            self.exactly(needed_places(book, (times(0), 0)), ())
        self.exactly(least_choices(Book(BARE, ()), ((), 0)), ((),))
        self.exactly(least_choices(Book(BARE, [((), 0), ((), 1)]), ((), 1)), ((1,),))

    def test_small(self):
        book = square_book((1, 0), (1, 1), (0, 1), (2, 1), (2, 0))
        self.exactly(least_choices(book, (times(0), 1)), ((2,), (0, 1), (0, 3), (1, 3), (3, 4)))
        self.check(book, (times(0), 1))
        self.check(book, (R, 1))
        self.exactly(needed_places(square_book((1, 0), (2, 1)), (R, 1)), (0, 1))
        self.exactly(least_choices(square_book((6, 0), (10, 0), (15, 0)), (R, 0)), ((0, 1, 2),))
        self.exactly(least_breaks(square_book((6, 0), (10, 0), (15, 0)), (R, 0)), ((0,), (1,), (2,)))

    def test_any_book(self):
        chances = a_random(641)
        seen = [0, 0, 0]
        for book, saying in some_books(642, many=30):
            premises = list(book.premises)
            premises += [chances.choice(premises) for _ in range(chances.randint(0, 2))] if premises else []
            book = Book(book.picture, premises)
            if chances.random() < 0.5:
                saying = added_up(book.picture, premises, [chances.randint(-2, 2) for _ in premises])
            if not derives(book, range(len(book)), saying):
                for function in (needed_places, least_choices, least_breaks):
                    self.refused(NotDerived, {}, function, book, saying)
                continue
            seen = [a + (b > 1) for a, b in zip(seen, self.check(book, saying))]
        self.assertGreater(min(seen), 10)

    def test_eight_premises_and_more(self):
        numbers = (30, 42, 70, 105, 66, 110, 165, 231)
        book = square_book(*[(number, 0) for number in numbers])
        counts = self.check(book, (R, 0))
        self.assertGreater(min(counts[:2]), 3)
        more = book.with_premise((R, 0))
        for saying in ((R, 0), None):
            self.refused(TooMany, {"most": 8}, least_choices, more, saying)
            self.refused(TooMany, {"most": 8}, least_breaks, more, saying)
        self.exactly(needed_places(more, (R, 0)), ())
        ten = square_book(*[(2 ** 9 // 2 ** k * 3 ** k, 0) for k in range(10)])
        self.exactly(needed_places(ten, (R, 0)), (0, 9))

    def test_errors_in_their_order(self):
        for saying, what in WRONG_SAYINGS:
            for function in (needed_places, least_choices, least_breaks):
                self.refused(BadSaying, {"what": what}, function, square_book((2, 0)), saying)
        for function in (needed_places, least_choices, least_breaks):
            self.refused(NotDerived, {}, function, square_book((2, 0)), (R, 0))
            self.refused(NotDerived, {}, function, square_book(), (times(0), 1))

    @in_good_time
    def test_great_numbers(self):
        chances = a_random(643)
        picture = full_picture(5, 5)
        for bound in (2, 10 ** 30, 10 ** 100):
            tours = some_tours(picture, chances, 7, bound)
            book = Book(picture, [(tour, 1) for tour in tours] + [(tours[0], 0)])
            saying = added_up(picture, book.premises, (0, 1, 2, -1, 0, 5, 1, 0))
            self.exactly(least_choices(book, saying), ((1, 2, 3, 5, 6),))
            self.exactly(needed_places(book, saying), (1, 2, 3, 5, 6))
            saying = (added_up(picture, book.premises, (1, 0, 0, 1, 0, 0, 0, 0))[0], 0)
            self.exactly(least_breaks(book, saying), ((0,), (3,)))

    def test_nothing_passed_in_is_changed(self):
        saying = [list(R), 0]
        for function in (needed_places, least_choices, least_breaks):
            function(square_book((1, 0)), saying)
        self.assertEqual(saying, [[1, -1, -1, 1], 0])

    def test_other_pictures(self):
        picture = Picture(4, 4, [(0, 0), (0, 1), (1, 0), (1, 1), (2, 2), (2, 3), (3, 2), (3, 3)])
        one, other = R + (0,) * 4, (0,) * 4 + R
        book = Book(picture, [(one, 0), (other, 1), (R + R, 1), (one, 1)])
        self.exactly(least_choices(book, (R + R, 1)), ((2,), (0, 1)))
        self.check(book, (R + R, 1))
        self.check(book, (R + R, 0))


if __name__ == "__main__":
    unittest.main()
