"""Tables [3.4 to 3.6]."""

import unittest
from fractions import Fraction

from sheetproofs.bases import basis_tours, other_places, tree_places
from sheetproofs.errors import (BadExponent, BadFactors, BadNumbers, BadSaying, BadTable, BadTour)
from sheetproofs.fields import FractionField, RestField
from sheetproofs.pictures import Picture, full_picture
from sheetproofs.tables import (basis_worths, check_table, first_broken, holds_in, scaled_table,
                                table_of, table_power, table_product, worth_of)
from tests.helpers import NO_SEQUENCES, NO_WHOLES, Case, a_random, some_pictures, some_tours

SEVEN = RestField(7)
SQUARE = full_picture(2, 2)
R = (1, -1, -1, 1)
FIELDS = (RestField(2), RestField(3), SEVEN, RestField(19997), FractionField())
GOOD = (2, 3, 4, 5)
# Tables over the field of 7 that are none, with the index that is due.
WRONG = (
    [(thing, -1) for thing in NO_SEQUENCES]
    + [((), -1), ((1, 1, 1), -1), ((1, 1, 1, 1, 1), -1), ((0, 0, 0), -1)]
    + [((thing, 1, 1, 1), 0) for thing in NO_WHOLES + (0, 7, -1, (1, 1))]
    + [([1, 6, 0, 0], 2), ((1, 1, 1, True), 3), ((1, 7, 0, 1), 1), ((1, 1, 1, 0), 3)]
)
BAD_TOURS = ((None, "length"), ((0, 0, 0), "length"), ((0, 0, 0, True), "number"),
             ((1, 0, 0, 0), "point"), ((1, -1, 0, 0), "wall"))
BAD_SAYINGS = ((None, "couple"), ((R,), "couple"), (((1, 0, 0, 0), 0), "tour"), ((R, True), "sign"),
               ((R, 2), "sign"))


def a_table(field, chances, length):
    """Return as many numbers of the field, none of them zero."""
    if isinstance(field, RestField):
        return tuple(chances.randint(1, field.prime - 1) for _ in range(length))
    numbers = []
    for _ in range(length):
        size = 10 ** chances.choice((1, 3, 12))
        number = Fraction(chances.choice((-1, 1)) * chances.randint(1, size), chances.randint(1, size))
        numbers.append((number.numerator, number.denominator))
    return tuple(numbers)


def worth(field, table, tour):
    """Return the worth of a tour, calculated without the package."""
    if isinstance(field, RestField):
        total = 1
        for number, exponent in zip(table, tour):
            total = total * pow(number, exponent, field.prime) % field.prime
        return total
    total = Fraction(1)
    for (top, bottom), exponent in zip(table, tour):
        total = total * Fraction(top, bottom) ** exponent
    return total.numerator, total.denominator


class TestCheckTable(Case):
    def test_a_table_comes_back_as_a_tuple(self):
        self.exactly(check_table(SEVEN, SQUARE, list(GOOD)), GOOD)
        self.exactly(check_table(SEVEN, SQUARE, (1, 6, 1, 6)), (1, 6, 1, 6))
        self.exactly(check_table(RestField(2), SQUARE, [1, 1, 1, 1]), (1, 1, 1, 1))
        self.exactly(check_table(SEVEN, Picture(3, 1, ()), []), ())
        great = ((10 ** 299, 3), (-1, 10 ** 299), (1, 1), (-5, 2))
        self.exactly(check_table(FractionField(), SQUARE, list(great)), great)

    def test_what_is_wrong(self):
        for table, index in WRONG:
            self.refused(BadTable, {"index": index}, check_table, SEVEN, SQUARE, table)

    def test_what_is_wrong_over_the_fractions(self):
        field = FractionField()
        for thing in ((0, 1), [1, 1], (2, 2), (1, 0), (1, -1), 1, None, (True, 1), (0, 2)):
            table = [(1, 1), (1, 1), thing, thing]
            self.refused(BadTable, {"index": 2}, check_table, field, SQUARE, table)
        self.refused(BadTable, {"index": -1}, check_table, field, SQUARE, ((1, 1),) * 5)

    def test_later_changes_have_no_effect(self):
        table = list(GOOD)
        found = check_table(SEVEN, SQUARE, table)
        table[0] = 1
        self.assertEqual(found, GOOD)

    def test_all_functions_check_tables_so(self):
        for table, index in WRONG:
            told = {"index": index}
            self.refused(BadTable, told, worth_of, SEVEN, SQUARE, table, None)
            self.refused(BadTable, told, basis_worths, SEVEN, SQUARE, table)
            self.refused(BadTable, told, holds_in, SEVEN, SQUARE, table, None)
            self.refused(BadTable, told, first_broken, SEVEN, SQUARE, table, [None])
            self.refused(BadTable, told, table_product, SEVEN, SQUARE, table, None)
            self.refused(BadTable, told, table_product, SEVEN, SQUARE, GOOD, table)
            self.refused(BadTable, told, table_power, SEVEN, SQUARE, table, None)
            self.refused(BadTable, told, scaled_table, SEVEN, SQUARE, table, None, None)


class TestWorths(Case):
    def test_example(self):
        self.exactly(worth_of(SEVEN, SQUARE, GOOD, R), 2)
        self.exactly(basis_worths(SEVEN, SQUARE, list(GOOD)), (2,))
        self.exactly(basis_worths(SEVEN, Picture(1, 2, ((0, 0),)), (3,)), ())

    def test_worths(self):
        chances = a_random(51)
        for picture in some_pictures():
            for field in FIELDS:
                table = a_table(field, chances, len(picture))
                for tour in some_tours(picture, chances, 2):
                    self.exactly(worth_of(field, picture, list(table), list(tour)),
                                 worth(field, table, tour))
                self.exactly(basis_worths(field, picture, list(table)),
                             tuple(worth(field, table, tour) for tour in basis_tours(picture)))

    def test_the_worth_of_a_sum_is_the_product_of_the_worths(self):
        chances = a_random(52)
        for picture in some_pictures():
            for field in FIELDS:
                table = a_table(field, chances, len(picture))
                one, other = some_tours(picture, chances, 2)
                both = [a + b for a, b in zip(one, other)]
                self.exactly(worth_of(field, picture, table, both),
                             field.times(worth_of(field, picture, table, one),
                                         worth_of(field, picture, table, other)))

    def test_great_tours(self):
        for times in (10 ** 30, -10 ** 299):
            tour = tuple(times * a for a in R)
            self.exactly(worth_of(SEVEN, SQUARE, GOOD, tour), pow(2, times, 7))
            self.exactly(worth_of(FractionField(), SQUARE, ((-1, 1),) + ((1, 1),) * 3, tour), (1, 1))

    def test_fractions_with_great_tops_and_bottoms(self):
        top, bottom = 10 ** 290 + 1, 10 ** 289 + 7
        self.assertEqual(Fraction(top, bottom).denominator, bottom)
        table = ((top, bottom), (1, bottom), (-top, 1), (1, 3))
        self.exactly(worth_of(FractionField(), SQUARE, table, R), (-1, 3))

    def test_bad_tours(self):
        for tour, what in BAD_TOURS:
            self.refused(BadTour, {"what": what}, worth_of, SEVEN, SQUARE, GOOD, tour)


class TestHolds(Case):
    def test_holds_in(self):
        ones, minus = (1, 1, 1, 1), (1, 1, 1, 6)
        for table, sign, holds in ((ones, 0, True), (ones, 1, False), (minus, 0, False),
                                   (minus, 1, True), (GOOD, 0, False), (GOOD, 1, False)):
            self.assertIs(holds_in(SEVEN, SQUARE, table, (R, sign)), holds)
            self.assertIs(holds_in(SEVEN, SQUARE, list(table), [list(R), sign]), holds)

    def test_over_the_fractions(self):
        field = FractionField()
        ones = ((1, 1),) * 4
        self.assertIs(holds_in(field, SQUARE, ones, (R, 0)), True)
        self.assertIs(holds_in(field, SQUARE, ones, (R, 1)), False)
        self.assertIs(holds_in(field, SQUARE, ((-1, 2), (2, 1), (1, 4), (1, 1)), (R, 1)), True)
        self.assertIs(holds_in(field, SQUARE, ((-1, 2), (2, 1), (1, 4), (1, 1)), (R, 0)), False)

    def test_modulo_2_every_saying_holds(self):
        for picture in some_pictures():
            table = (1,) * len(picture)
            for tour in some_tours(picture, a_random(53), 2) + [(0,) * len(picture)]:
                for sign in (0, 1):
                    self.assertIs(holds_in(RestField(2), picture, table, (tour, sign)), True)

    def test_elsewhere_minus_one_is_never_one(self):
        for field in FIELDS[1:]:
            for picture in (SQUARE, Picture(2, 2, ())):
                table = (field.minus_one,) * len(picture)
                zeros = (0,) * len(picture)
                self.assertIs(holds_in(field, picture, table, (zeros, 1)), False)
                self.assertIs(holds_in(field, picture, table, (zeros, 0)), True)

    def test_holds_in_all_pictures(self):
        chances = a_random(54)
        for picture in some_pictures():
            for field in FIELDS:
                table = a_table(field, chances, len(picture))
                for tour in some_tours(picture, chances, 2):
                    found = worth(field, table, tour)
                    self.assertIs(holds_in(field, picture, table, (tour, 0)), found == field.one)
                    self.assertIs(holds_in(field, picture, table, (tour, 1)), found == field.minus_one)

    def test_first_broken(self):
        zeros = (0, 0, 0, 0)
        double = (2, -2, -2, 2)
        minus = (1, 1, 1, 6)
        self.assertIsNone(first_broken(SEVEN, SQUARE, GOOD, ()))
        self.assertIsNone(first_broken(SEVEN, SQUARE, minus, [(R, 1), (zeros, 0), (double, 0)]))
        self.exactly(first_broken(SEVEN, SQUARE, minus, [(R, 0), (zeros, 1)]), 0)
        self.exactly(first_broken(SEVEN, SQUARE, minus, ((R, 1), (double, 1), (R, 0))), 1)
        self.exactly(first_broken(SEVEN, SQUARE, minus, [(R, 1)] * 100 + [(R, 0)]), 100)

    def test_bad_sayings(self):
        for saying, what in BAD_SAYINGS:
            self.refused(BadSaying, {"what": what}, holds_in, SEVEN, SQUARE, GOOD, saying)
            # All sayings are checked before the first one, which is broken, is tested.
            sayings = [(R, 0), saying, ((0, 0), 7)]
            self.refused(BadSaying, {"what": what}, first_broken, SEVEN, SQUARE, GOOD, sayings)


class TestNewTables(Case):
    def test_product(self):
        self.exactly(table_product(SEVEN, SQUARE, [2, 3, 4, 5], (6, 5, 4, 3)), (5, 1, 2, 1))
        chances = a_random(55)
        for picture in some_pictures():
            for field in FIELDS:
                one = a_table(field, chances, len(picture))
                other = a_table(field, chances, len(picture))
                both = table_product(field, picture, list(one), other)
                self.exactly(both, tuple(field.times(a, b) for a, b in zip(one, other)))
                for tour in some_tours(picture, chances, 1):
                    self.exactly(worth_of(field, picture, both, tour),
                                 field.times(worth(field, one, tour), worth(field, other, tour)))

    def test_power(self):
        self.exactly(table_power(SEVEN, SQUARE, [2, 3, 4, 5], 2), (4, 2, 2, 4))
        self.exactly(table_power(SEVEN, SQUARE, GOOD, -1), (4, 5, 2, 3))
        chances = a_random(56)
        for exponent in (0, 1, 5, -5, 999, 1000, -999, -1000):
            for field in FIELDS[:4]:
                table = a_table(field, chances, 4)
                self.exactly(table_power(field, SQUARE, table, exponent),
                             tuple(pow(number, exponent, field.prime) for number in table))
        self.exactly(table_power(FractionField(), SQUARE, [(2, 3), (-1, 2), (1, 1), (-3, 1)], -3),
                     ((27, 8), (-8, 1), (1, 1), (-1, 27)))
        self.exactly(table_power(FractionField(), SQUARE, ((2, 1), (-1, 2), (1, 1), (3, 1)), 1000),
                     ((2 ** 1000, 1), (1, 2 ** 1000), (1, 1), (3 ** 1000, 1)))

    def test_bad_exponents(self):
        for thing in NO_WHOLES + (1001, -1001, 10 ** 30):
            self.refused(BadExponent, {}, table_power, SEVEN, SQUARE, GOOD, thing)
            self.refused(BadTable, {"index": 3}, table_power, SEVEN, SQUARE, (1, 1, 1, 0), thing)

    def test_scaled(self):
        self.exactly(scaled_table(SEVEN, SQUARE, [2, 3, 4, 5], [1, 2], [3, 4]), (6, 5, 3, 5))
        picture = Picture(2, 3, [(0, 2), (1, 0)])
        self.exactly(scaled_table(SEVEN, picture, (1, 2), (2, 3), (4, 5, 6)), (5, 3))
        self.exactly(scaled_table(SEVEN, Picture(1, 1, ()), (), (5,), (6,)), ())

    def test_scaling_keeps_worths(self):
        chances = a_random(57)
        for picture in some_pictures():
            for field in FIELDS:
                table = a_table(field, chances, len(picture))
                points = a_table(field, chances, picture.points)
                walls = a_table(field, chances, picture.walls)
                scaled = scaled_table(field, picture, table, points, walls)
                self.exactly(scaled, tuple(field.times(field.times(table[at], points[p]), walls[w])
                                           for at, (p, w) in enumerate(picture.pairs)))
                self.exactly(basis_worths(field, picture, scaled), basis_worths(field, picture, table))

    def test_bad_factors(self):
        picture = full_picture(2, 3)
        table = (1,) * 6
        wrong = [(thing, -1) for thing in NO_SEQUENCES + ((), (1,), (1,) * 4)]
        wrong += [((1, thing), 1) for thing in NO_WHOLES + (0, 7, -1)] + [((0, 0), 0)]
        for factors, index in wrong:
            self.refused(BadFactors, {"what": "points", "index": index}, scaled_table, SEVEN, picture,
                         table, factors, factors)
        wrong = [(thing, -1) for thing in NO_SEQUENCES + ((), (1,) * 2, (1,) * 4)]
        wrong += [((1, 1, thing), 2) for thing in NO_WHOLES + (0, 7, -1)] + [((1, 0, 0), 1)]
        for factors, index in wrong:
            self.refused(BadFactors, {"what": "walls", "index": index}, scaled_table, SEVEN, picture,
                         table, [1, 6], factors)

    def test_table_of(self):
        self.exactly(table_of(SEVEN, SQUARE, [5]), (1, 1, 1, 5))
        self.exactly(table_of(SEVEN, full_picture(3, 3), (2, 3, 4, 5)), (1, 1, 1, 1, 2, 3, 1, 4, 5))
        self.exactly(table_of(SEVEN, Picture(3, 1, ()), ()), ())
        self.exactly(table_of(FractionField(), SQUARE, [(-2, 3)]), ((1, 1), (1, 1), (1, 1), (-2, 3)))
        chances = a_random(58)
        for picture in some_pictures():
            for field in FIELDS:
                numbers = a_table(field, chances, len(other_places(picture)))
                table = table_of(field, picture, list(numbers))
                self.is_tuples(table)
                self.assertTrue(all(table[place] == field.one for place in tree_places(picture)))
                self.exactly(tuple(table[place] for place in other_places(picture)), numbers)
                self.exactly(basis_worths(field, picture, table), numbers)

    def test_bad_numbers(self):
        picture = full_picture(2, 3)
        for thing in NO_SEQUENCES + ((), (1,), (1, 1, 1), (0,)):
            self.refused(BadNumbers, {"index": -1}, table_of, SEVEN, picture, thing)
        for thing in NO_WHOLES + (0, 7, -1):
            self.refused(BadNumbers, {"index": 0}, table_of, SEVEN, picture, [thing, 0])
            self.refused(BadNumbers, {"index": 1}, table_of, SEVEN, picture, (1, thing))

    def test_nothing_passed_in_is_changed(self):
        table, points, walls = [2, 3, 4, 5], [1, 2], [3, 4]
        scaled_table(SEVEN, SQUARE, table, points, walls)
        table_power(SEVEN, SQUARE, table, 3)
        self.assertEqual((table, points, walls), ([2, 3, 4, 5], [1, 2], [3, 4]))


if __name__ == "__main__":
    unittest.main()
