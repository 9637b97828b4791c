"""Ranks, weights, products and the rows that undo others [8.1]."""

import unittest
from itertools import combinations, product

from sheetproofs.errors import NotInvertible
from sheetproofs.fields import FractionField, RestField
from sheetproofs.ranks import rank_of_rows, rows_product, rows_unbound, undoing_rows, weights_for
from tests.helpers import Case, a_random, in_good_time
from tests.lattices import determinant
from tests.linear import (FIELDS, FIVE, FRACTIONS, GREAT, SEVEN, THREE, TWO, a_number, a_row, rank, some_rows, summed,
                          value)


def units(field, many):
    """Return the unit rows."""
    return tuple(tuple(field.one if k == j else field.zero for k in range(many)) for j in range(many))


class TestRank(Case):
    def test_small(self):
        self.assertEqual(rank_of_rows(SEVEN, ()), 0)
        self.assertEqual(rank_of_rows(SEVEN, []), 0)
        self.assertEqual(rank_of_rows(SEVEN, [(0, 0)]), 0)
        self.assertEqual(rank_of_rows(SEVEN, [(0, 0), [3, 5], (6, 3)]), 1)
        self.assertEqual(rank_of_rows(SEVEN, [(0, 0), [3, 5], (6, 4)]), 2)
        self.assertEqual(rank_of_rows(TWO, [(1, 1, 0), (0, 1, 1), (1, 0, 1)]), 2)
        self.assertEqual(rank_of_rows(THREE, [(1, 1, 0), (0, 1, 1), (1, 0, 1)]), 3)
        half, third = (1, 2), (-1, 3)
        self.assertEqual(rank_of_rows(FRACTIONS, [(half, third), ((-3, 2), (1, 1))]), 1)
        self.assertEqual(rank_of_rows(FRACTIONS, [(half, third), ((3, 2), (1, 1))]), 2)

    def test_unbound(self):
        for field in FIELDS:
            self.assertIs(rows_unbound(field, ()), True)
            self.assertIs(rows_unbound(field, [(field.zero,)]), False)
            self.assertIs(rows_unbound(field, [(field.minus_one,)]), True)
            self.assertIs(rows_unbound(field, [(field.one,), (field.one,)]), False)
            self.assertIs(rows_unbound(field, units(field, 12)), True)
            self.assertIs(rows_unbound(field, units(field, 12) + ((field.one,) * 12,)), False)
            self.assertIs(rows_unbound(field, [(field.one, field.zero)] * 2), False)

    def test_against_minors(self):
        chances = a_random(501)
        for field in FIELDS:
            for _ in range(40):
                rows = some_rows(field, chances, chances.randint(1, 4), chances.randint(1, 4))
                numbers = [[value(field, n) for n in row] for row in rows]
                wanted = 0
                for size in range(1, min(len(rows), len(rows[0])) + 1):
                    for some, places in product(combinations(numbers, size),
                                                combinations(range(len(rows[0])), size)):
                        minor = determinant([[row[at] for at in places] for row in some])
                        if minor % field.prime if isinstance(field, RestField) else minor:
                            wanted = size
                self.assertEqual(rank_of_rows(field, rows), wanted)
                self.assertIs(rows_unbound(field, rows), wanted == len(rows))
                self.assertEqual(rank(field, rows), wanted)

    def test_against_all_weights(self):
        chances = a_random(502)
        for field in (TWO, THREE):
            for _ in range(40):
                rows = some_rows(field, chances, chances.randint(1, 5), chances.randint(1, 5))
                zeros = 0
                for weights in product(range(field.prime), repeat=len(rows)):
                    zeros += not any(summed(field, weights, rows, len(rows[0])))
                self.assertIs(rows_unbound(field, rows), zeros == 1)
                self.assertEqual(field.prime ** (len(rows) - rank_of_rows(field, rows)), zeros)


class TestWeights(Case):
    def check(self, field, rows, row):
        """Check the weights that are returned, and tell whether there are some."""
        found = weights_for(field, rows, row)
        self.assertIs(found is not None, rank(field, list(rows) + [row]) == rank(field, rows))
        if found is None:
            return False
        self.is_tuples(found)
        self.assertEqual(len(found), len(rows))
        self.assertEqual([field.check_number(n) for n in found], list(found))
        self.exactly(summed(field, found, rows, len(row)), tuple(row))
        return True

    def test_no_rows(self):
        for field in FIELDS:
            for width in (1, 3, 12):
                zeros = [field.zero] * width
                self.exactly(weights_for(field, (), zeros), ())
                self.exactly(weights_for(field, [], tuple(zeros)), ())
                self.assertIsNone(weights_for(field, [], zeros[1:] + [field.minus_one]))

    def test_small(self):
        self.exactly(weights_for(SEVEN, [(1, 0), (0, 1)], (3, 4)), (3, 4))
        self.exactly(weights_for(SEVEN, [(1, 2), (0, 3)], [2, 0]), (2, 1))
        self.assertIsNone(weights_for(SEVEN, [(1, 2), (2, 4)], (0, 1)))
        self.exactly(weights_for(FRACTIONS, [((2, 1), (0, 1)), ((1, 1), (-3, 1))], ((0, 1), (1, 1))),
                     ((1, 6), (-1, 3)))
        self.exactly(weights_for(SEVEN, [(0, 0)], (0, 0)), (0,))

    def test_any_rows(self):
        chances = a_random(503)
        for field in FIELDS:
            seen = [0, 0]
            for _ in range(60):
                width = chances.randint(1, 5)
                rows = some_rows(field, chances, chances.randint(1, 6), width)
                row = a_row(field, chances, width)
                if chances.random() < 0.5:
                    row = summed(field, [a_number(field, chances) for _ in rows], rows, width)
                seen[self.check(field, rows, row)] += 1
                self.assertTrue(self.check(field, rows, (field.zero,) * width))
                self.assertTrue(self.check(field, rows, rows[-1]))
            self.assertGreater(min(seen), 5)


class TestProduct(Case):
    def test_small(self):
        self.exactly(rows_product(SEVEN, [(1, 2), [3, 4]], [(5, 6, 0), [1, 1, 1]]), ((0, 1, 2), (5, 1, 4)))
        self.exactly(rows_product(SEVEN, (), [(1, 2)]), ())
        self.exactly(rows_product(SEVEN, [], []), ())
        self.exactly(rows_product(SEVEN, [(2,)], [(3, 0)]), ((6, 0),))

    def test_any_rows(self):
        chances = a_random(504)
        for field in FIELDS:
            for _ in range(15):
                many, inner, width = [chances.randint(1, 6) for _ in range(3)]
                rows, others = some_rows(field, chances, many, inner), some_rows(field, chances, inner, width)
                self.exactly(rows_product(field, rows, others),
                             tuple(summed(field, row, others, width) for row in rows))


class TestUndoing(Case):
    def test_small(self):
        self.exactly(undoing_rows(SEVEN, [[3]]), ((5,),))
        self.exactly(undoing_rows(SEVEN, [(0, 1), (2, 0)]), ((0, 4), (1, 0)))
        self.exactly(undoing_rows(TWO, [(1, 1), (0, 1)]), ((1, 1), (0, 1)))
        self.exactly(undoing_rows(FRACTIONS, [((2, 3), (0, 1)), ((1, 1), (-1, 1))]),
                     (((3, 2), (0, 1)), ((3, 2), (-1, 1))))

    def test_any_rows(self):
        chances = a_random(505)
        for field in FIELDS:
            seen = 0
            for _ in range(60):
                many = chances.randint(1, 6)
                rows = [a_row(field, chances, many) for _ in range(many)]
                if rank(field, rows) < many:
                    self.refused(NotInvertible, {}, undoing_rows, field, rows)
                    continue
                found = undoing_rows(field, rows)
                self.is_tuples(found)
                for one, other in ((rows, found), (found, rows)):
                    self.exactly(tuple(summed(field, row, other, many) for row in one), units(field, many))
                seen += 1
            self.assertGreater(seen, 8)

    def test_not_invertible(self):
        for field in FIELDS:
            self.refused(NotInvertible, {}, undoing_rows, field, [[field.zero]])
            self.refused(NotInvertible, {}, undoing_rows, field, [[field.one] * 3] * 3)
            self.refused(NotInvertible, {}, undoing_rows, field, [(field.one, field.zero), (field.minus_one, field.zero)])


class TestAll(Case):
    def test_nothing_passed_in_is_changed(self):
        rows, row = [[0, 3], [2, 5]], [1, 1]
        rank_of_rows(SEVEN, rows)
        rows_unbound(SEVEN, rows)
        weights_for(SEVEN, rows, row)
        rows_product(SEVEN, rows, rows)
        undoing_rows(SEVEN, rows)
        self.assertEqual((rows, row), ([[0, 3], [2, 5]], [1, 1]))

    @in_good_time
    def test_thirty_rows_of_twelve_numbers(self):
        chances = a_random(506)
        for field in (FIVE, GREAT, FractionField()):
            for rows in (some_rows(field, chances, 30, 12), [a_row(field, chances, 12) for _ in range(30)]):
                self.assertEqual(rank_of_rows(field, rows), rank(field, rows))
                TestWeights.check(self, field, rows, rows[7])
                TestWeights.check(self, field, rows[:6], a_row(field, chances, 12))
            self.assertEqual(rank_of_rows(field, rows), 12)
            found = undoing_rows(field, rows[:12])
            self.exactly(rows_product(field, found, rows[:12]), units(field, 12))


if __name__ == "__main__":
    unittest.main()
