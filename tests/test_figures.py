"""Figures [3.7 to 3.9]."""

import unittest
from itertools import product

from sheetproofs.bases import basis_tours, other_places, tree_places
from sheetproofs.errors import BadTable, TooMany
from sheetproofs.fields import FractionField, RestField
from sheetproofs.figures import (Factors, Unlike, count_plain, factors_fault, plain_form, plain_tables,
                                 same_figure, tables_alike, unlike_fault)
from sheetproofs.pictures import Picture, full_picture
from sheetproofs.tables import basis_worths, scaled_table
from tests.helpers import NO_SEQUENCES, NO_WHOLES, Case, a_random, some_pictures
from tests.test_tables import FIELDS, GOOD, SEVEN, SQUARE, WRONG, a_table

FRACTIONS = FractionField()
ONES = (1, 1, 1, 1)


class TestResults(Case):
    def test_attributes_and_equality(self):
        factors = Factors([1, 2], (3, 4))
        self.assertEqual((factors.points, factors.walls), ([1, 2], (3, 4)))
        self.assertTrue(factors == Factors([1, 2], (3, 4)))
        self.assertFalse(factors == Factors((1, 2), (3, 4)))
        self.assertFalse(factors == Factors([1, 2], (3, 5)))
        self.assertFalse(factors == Factors([1, 1], (3, 4)))
        unlike = Unlike("x", None, 5)
        self.assertEqual((unlike.place, unlike.first, unlike.second), ("x", None, 5))
        self.assertTrue(unlike == Unlike("x", None, 5))
        for other in (Unlike("y", None, 5), Unlike("x", 0, 5), Unlike("x", None, 6), factors, None, 5):
            self.assertFalse(unlike == other)
        self.assertFalse(factors == unlike)
        self.assertTrue(factors != unlike)


class TestSameFigure(Case):
    def test_example(self):
        found = same_figure(SEVEN, SQUARE, [2, 3, 4, 5], (1, 1, 1, 2))
        self.assertTrue(found == Factors((1, 4), (4, 5)))
        self.assertTrue(same_figure(SEVEN, SQUARE, GOOD, ONES) == Unlike(0, 2, 1))

    def test_scaled_tables_have_the_same_figure(self):
        chances = a_random(61)
        for picture in some_pictures():
            for field in FIELDS:
                one = a_table(field, chances, len(picture))
                other = scaled_table(field, picture, one, a_table(field, chances, picture.points),
                                     a_table(field, chances, picture.walls))
                found = same_figure(field, picture, list(one), list(other))
                self.assertIsInstance(found, Factors)
                self.is_tuples((found.points, found.walls))
                self.exactly(scaled_table(field, picture, one, found.points, found.walls), other)
                for points, walls in picture.pieces:
                    if points:
                        self.assertEqual(found.points[points[0]], field.one)
                    else:
                        self.assertEqual(found.walls[walls[0]], field.one)
                self.assertIsNone(factors_fault(field, picture, one, other, found))

    def test_other_tables_have_not(self):
        chances = a_random(62)
        seen = 0
        for picture in some_pictures():
            for field in FIELDS:
                one = a_table(field, chances, len(picture))
                other = a_table(field, chances, len(picture))
                worths, others = (basis_worths(field, picture, table) for table in (one, other))
                found = same_figure(field, picture, one, other)
                if worths == others:
                    self.assertIsInstance(found, Factors)
                    continue
                seen += 1
                place = [a == b for a, b in zip(worths, others)].index(False)
                self.assertTrue(found == Unlike(place, worths[place], others[place]))
                self.is_tuples((found.place, found.first, found.second))
                self.assertIsNone(unlike_fault(field, picture, one, other, found))
        self.assertGreater(seen, 50)

    def test_the_first_unlike_worth(self):
        nine = full_picture(3, 3)
        one = (1,) * 9
        other = (1, 1, 1, 1, 1, 2, 1, 1, 3)
        self.assertTrue(same_figure(SEVEN, nine, one, other) == Unlike(1, 1, 2))
        self.assertTrue(same_figure(SEVEN, nine, other, one) == Unlike(1, 2, 1))

    def test_no_open_pair(self):
        self.assertTrue(same_figure(SEVEN, Picture(2, 3, ()), (), []) == Factors((1, 1), (1, 1, 1)))
        self.assertTrue(same_figure(FRACTIONS, Picture(1, 1, ()), [], ()) == Factors(((1, 1),), ((1, 1),)))

    def test_errors(self):
        for table, index in WRONG:
            for function, more in ((same_figure, ()), (factors_fault, (Factors(None, None),)),
                                   (unlike_fault, (Unlike(None, None, None),))):
                self.refused(BadTable, {"index": index}, function, SEVEN, SQUARE, table, None, *more)
                self.refused(BadTable, {"index": index}, function, SEVEN, SQUARE, GOOD, table, *more)


class TestJudges(Case):
    def test_factors_fault(self):
        def fault(points, walls):
            return factors_fault(SEVEN, SQUARE, [2, 3, 4, 5], [1, 1, 1, 2], Factors(points, walls))
        self.assertIsNone(fault((1, 4), (4, 5)))
        self.assertIsNone(fault([2, 1], [2, 6]))
        for thing in NO_SEQUENCES + ((), (1,), (1, 1, 1), (0, 1), (1, 7), (True, 4), (1, 4.0)):
            self.assertEqual(fault(thing, thing), "points")
            self.assertEqual(fault((1, 4), thing), "walls")
        self.assertEqual(fault((1, 4), (4, 6)), "pair")
        self.assertEqual(fault((1, 1), (1, 1)), "pair")
        self.assertEqual(factors_fault(SEVEN, SQUARE, GOOD, ONES, Factors((1, 4), (4, 5))), "pair")

    def test_factors_that_no_pair_needs(self):
        picture = Picture(2, 2, ((0, 0),))
        self.assertIsNone(factors_fault(SEVEN, picture, (3,), (6,), Factors((2, 5), (1, 4))))
        self.assertEqual(factors_fault(SEVEN, picture, (3,), (6,), Factors((2, 5), (1, 0))), "walls")

    def test_unlike_fault(self):
        nine = full_picture(3, 3)
        one = (1,) * 9
        other = (1, 1, 1, 1, 1, 2, 1, 1, 3)

        def fault(place, first, second):
            return unlike_fault(SEVEN, nine, list(one), list(other), Unlike(place, first, second))
        self.assertIsNone(fault(1, 1, 2))
        self.assertIsNone(fault(3, 1, 3))
        for thing in NO_WHOLES + (4, -1, 8, 10 ** 30):
            self.assertEqual(fault(thing, 1, 2), "place")
        for thing in NO_WHOLES + (2, 0, 8, 7):
            self.assertEqual(fault(1, thing, 2), "worths")
        for thing in NO_WHOLES + (1, 0, 9, -5):
            self.assertEqual(fault(1, 1, thing), "worths")
        self.assertEqual(fault(0, 1, 1), "alike")
        self.assertEqual(fault(2, 1, 1), "alike")
        self.assertEqual(fault(0, 2, 1), "worths")
        self.assertEqual(fault(0, 1, 2), "worths")

    def test_a_bool_is_no_worth(self):
        table = ((1, 1),) * 3 + ((2, 1),)
        ones = ((1, 1),) * 4
        for first in ((True, 1), (1, True), [1, 1], 1):
            unlike = Unlike(0, first, (2, 1))
            self.assertEqual(unlike_fault(FRACTIONS, SQUARE, ones, table, unlike), "worths")
        self.assertIsNone(unlike_fault(FRACTIONS, SQUARE, ones, table, Unlike(0, (1, 1), (2, 1))))

    def test_no_basis_tour(self):
        picture = Picture(1, 2, ((0, 0),))
        self.assertEqual(unlike_fault(SEVEN, picture, (1,), (2,), Unlike(0, 1, 2)), "place")


class TestPlainForms(Case):
    def test_example(self):
        self.exactly(plain_form(SEVEN, SQUARE, [2, 3, 4, 5]), (1, 1, 1, 2))

    def test_plain_forms_tell_figures(self):
        chances = a_random(63)
        for picture in some_pictures():
            for field in FIELDS:
                one = a_table(field, chances, len(picture))
                other = a_table(field, chances, len(picture))
                alike = scaled_table(field, picture, one, a_table(field, chances, picture.points),
                                     a_table(field, chances, picture.walls))
                plain = plain_form(field, picture, one)
                self.is_tuples(plain)
                self.assertTrue(all(plain[place] == field.one for place in tree_places(picture)))
                self.exactly(tuple(plain[place] for place in other_places(picture)),
                             basis_worths(field, picture, one))
                self.exactly(plain_form(field, picture, alike), plain)
                self.exactly(plain_form(field, picture, plain), plain)
                same = isinstance(same_figure(field, picture, one, other), Factors)
                self.assertIs(plain_form(field, picture, other) == plain, same)

    def test_bad_tables(self):
        for table, index in WRONG:
            self.refused(BadTable, {"index": index}, plain_form, SEVEN, SQUARE, table)

    def test_count_plain(self):
        self.exactly(count_plain(SEVEN, SQUARE), 6)
        self.exactly(count_plain(SEVEN, full_picture(5, 5)), 6 ** 16)
        self.exactly(count_plain(RestField(2), full_picture(5, 5)), 1)
        self.exactly(count_plain(RestField(19997), SQUARE), 19996)
        self.exactly(count_plain(SEVEN, Picture(5, 5, ())), 1)
        self.assertIsNone(count_plain(FRACTIONS, SQUARE))
        self.exactly(count_plain(FRACTIONS, Picture(5, 5, ())), 1)
        self.exactly(count_plain(FRACTIONS, full_picture(1, 5)), 1)

    def test_plain_tables(self):
        self.exactly(tuple(plain_tables(SEVEN, SQUARE)), tuple((1, 1, 1, n) for n in range(1, 7)))
        self.exactly(tuple(plain_tables(SEVEN, Picture(2, 2, ()))), ((),))
        self.exactly(tuple(plain_tables(FRACTIONS, full_picture(1, 3))), (((1, 1),) * 3,))
        self.exactly(tuple(plain_tables(RestField(2), full_picture(5, 5))), ((1,) * 25,))

    def test_plain_tables_of_all_pictures(self):
        for picture in some_pictures():
            for prime in (2, 3, 5):
                field = RestField(prime)
                many = (prime - 1) ** len(basis_tours(picture))
                self.exactly(count_plain(field, picture), many)
                if many <= 300:
                    tables = tuple(plain_tables(field, picture))
                    self.assertEqual(len(tables), many)
                    self.exactly(tables, tuple(sorted(set(tables))))
                    for table in tables:
                        self.exactly(plain_form(field, picture, table), table)

    def test_plain_tables_is_a_generator(self):
        tables = plain_tables(SEVEN, SQUARE)
        self.assertIs(iter(tables), tables)
        self.assertEqual(next(tables), (1, 1, 1, 1))

    def test_twenty_thousand_and_more(self):
        self.assertEqual(len(list(plain_tables(RestField(19997), SQUARE))), 19996)
        last = list(plain_tables(RestField(3), full_picture(3, 5)))[-1]
        self.exactly(last, (1, 1, 1, 1, 1, 1, 2, 2, 2, 2, 1, 2, 2, 2, 2))
        # 2 ** 14 is 16384, 2 ** 15 is 32768, 12 ** 4 is 20736 and 4 ** 8 is 65536.
        most = {"most": 20000}
        fourteen = full_picture(5, 5).without_pair((4, 4)).without_pair((4, 3))
        self.assertEqual(len(list(plain_tables(RestField(3), fourteen))), 16384)
        fifteen = full_picture(5, 5).without_pair((4, 4))
        for field, picture in ((RestField(13), full_picture(3, 3)), (RestField(3), fifteen),
                               (RestField(19997), full_picture(5, 5)), (FRACTIONS, SQUARE),
                               (RestField(5), full_picture(5, 3))):
            self.refused(TooMany, most, lambda a, b: next(plain_tables(a, b)), field, picture)


class TestTablesAlike(Case):
    def test_example(self):
        field = RestField(3)
        found = tables_alike(field, SQUARE, [1, 1, 1, 2])
        wanted = tuple(table for table in product((1, 2), repeat=4)
                       if table[0] * table[1] * table[2] * table[3] % 3 == 2)
        self.exactly(found, wanted)

    def test_all_of_the_figure(self):
        chances = a_random(64)
        for picture in some_pictures():
            for prime in (2, 3, 5):
                field = RestField(prime)
                table = a_table(field, chances, len(picture))
                many = (prime - 1) ** (picture.points + picture.walls - len(picture.pieces))
                if many > 2000:
                    continue
                found = tables_alike(field, picture, list(table))
                self.assertEqual(len(found), many)
                self.exactly(found, tuple(sorted(set(found))))
                self.assertIn(table, found)
                worths = basis_worths(field, picture, table)
                for other in found[:50]:
                    self.exactly(basis_worths(field, picture, other), worths)

    def test_edges(self):
        self.exactly(tables_alike(SEVEN, Picture(3, 2, ()), []), ((),))
        self.exactly(tables_alike(FRACTIONS, Picture(3, 2, ()), ()), ((),))
        self.exactly(tables_alike(RestField(2), full_picture(5, 5), (1,) * 25), ((1,) * 25,))
        lone = Picture(1, 1, ((0, 0),))
        found = tables_alike(RestField(19997), lone, (5,))
        self.exactly(found, tuple((number,) for number in range(1, 19997)))
        self.assertEqual(len(tables_alike(RestField(5), full_picture(4, 4), (2,) * 16)), 4 ** 7)

    def test_too_many(self):
        most = {"most": 20000}
        self.refused(TooMany, most, tables_alike, RestField(19997), full_picture(1, 2), (1, 1))
        self.refused(TooMany, most, tables_alike, RestField(5), full_picture(4, 5), (1,) * 20)
        self.refused(TooMany, most, tables_alike, FRACTIONS, Picture(1, 1, ((0, 0),)), ((1, 1),))
        self.refused(BadTable, {"index": 1}, tables_alike, RestField(19997), full_picture(1, 2), (1, 0))
        self.refused(BadTable, {"index": -1}, tables_alike, FRACTIONS, SQUARE, ())

    def test_bad_tables(self):
        for table, index in WRONG:
            self.refused(BadTable, {"index": index}, tables_alike, SEVEN, SQUARE, table)


if __name__ == "__main__":
    unittest.main()
