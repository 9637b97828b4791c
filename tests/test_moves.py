"""Spaces moved to others [8.12]."""

import unittest
from itertools import product

from sheetproofs.errors import NotInvertible, NotSpanning
from sheetproofs.moves import move_between, moved_space
from sheetproofs.spaces import Space, full_table_of
from tests.helpers import NO_SEQUENCES, NO_WHOLES, Case, a_random
from tests.linear import FIELDS, FIVE, FRACTIONS, SEVEN, THREE, TWO, a_row, a_space, no_zeros, rank, some_spaces, summed
from tests.test_fields import NO_FRACTIONS

SPACE = Space(SEVEN, [(1, 2), (0, 1)], [(1, 1), (3, 0)])


def some_moves(field, chances, width):
    """Return rows of the full rank."""
    while True:
        rows = [a_row(field, chances, width) for _ in range(width)]
        if rank(field, rows) == width:
            return rows


class TestMovedSpace(Case):
    def test_small(self):
        found = moved_space(SPACE, [[0, 1], (1, 0)])
        self.assertTrue(found == Space(SEVEN, [(2, 1), (1, 0)], [(1, 1), (0, 3)]))
        found = moved_space(SPACE, [(2, 0), (0, 1)])
        self.assertTrue(found == Space(SEVEN, [(2, 2), (0, 1)], [(4, 1), (5, 0)]))
        found = moved_space(SPACE, [(1, 3), (0, 1)])
        self.assertTrue(found == Space(SEVEN, [(1, 5), (0, 1)], [(5, 1), (3, 0)]))
        self.assertTrue(moved_space(SPACE, [(1, 0), (0, 1)]) == SPACE)

    def test_any_space(self):
        chances = a_random(551)
        for space in some_spaces(552):
            field = space.field
            rows = some_moves(field, chances, space.width)
            found = moved_space(space, rows)
            self.assertTrue(found.field == field)
            self.assertEqual(found.width, space.width)
            self.exactly(found.points, tuple(summed(field, point, rows, space.width) for point in space.points))
            self.exactly(full_table_of(found), full_table_of(space))
            # These rows undo each other: number i of the old wall is the sum of column i with the new one.
            columns = [[row[at] for row in rows] for at in range(space.width)]
            for old, new in zip(space.walls, found.walls):
                self.is_tuples(new)
                self.assertEqual(summed(field, new, columns, space.width), old)

    def test_not_invertible(self):
        for thing in NO_SEQUENCES + ((), [(1, 0)], [(1, 0), (0, 1), (1, 1)]):
            self.refused(NotInvertible, {}, moved_space, SPACE, thing)
        for thing in NO_SEQUENCES + ((), (1,), (1, 2, 3), (0, 0), (2, 0), (0, 7), (0, True), (-1, 1)):
            self.refused(NotInvertible, {}, moved_space, SPACE, [(1, 0), thing])
            self.refused(NotInvertible, {}, moved_space, SPACE, [thing, (1, 0)])
        for thing in NO_WHOLES + (7, -1, (1, 1)):
            self.refused(NotInvertible, {}, moved_space, SPACE, ((1, thing), (0, 1)))
        space = Space(FRACTIONS, [((1, 2),)], [((1, 1),)])
        for thing in NO_FRACTIONS + ((0, 1),):
            self.refused(NotInvertible, {}, moved_space, space, [[thing]])

    def test_nothing_passed_in_is_changed(self):
        rows = [[0, 1], [1, 0]]
        moved_space(SPACE, rows)
        self.assertEqual(rows, [[0, 1], [1, 0]])


class TestMoveBetween(Case):
    def test_there_and_back(self):
        chances = a_random(553)
        seen = 0
        for space in some_spaces(554, many=60):
            field = space.field
            rows = some_moves(field, chances, space.width)
            other = moved_space(space, rows)
            for what, told in (("points", space.points), ("walls", space.walls)):
                if rank(field, told) < space.width:
                    self.refused(NotSpanning, {"what": what}, move_between, space, other)
                    break
            else:
                self.exactly(move_between(space, other), tuple(tuple(row) for row in rows))
                self.assertTrue(moved_space(space, move_between(space, other)) == other)
                seen += 1
        self.assertGreater(seen, 60)

    def test_against_all_rows(self):
        chances = a_random(555)
        seen = [0, 0]
        for field in (TWO, THREE):
            for _ in range(40):
                one, other = [a_space(field, chances, chances.choice((1, 2, 2))) for _ in range(2)]
                if chances.random() < 0.5:
                    other = moved_space(one, some_moves(field, chances, one.width))
                if rank(field, one.points) < one.width or rank(field, one.walls) < one.width:
                    continue
                good = []
                for rows in product(product(range(field.prime), repeat=one.width), repeat=one.width):
                    if rank(field, rows) == one.width and moved_space(one, rows) == other:
                        good.append(rows)
                self.assertLess(len(good), 2)
                self.assertEqual(move_between(one, other), good[0] if good else None)
                self.assertIs(bool(good), (one.width, full_table_of(one)) == (other.width, full_table_of(other)))
                seen[bool(good)] += 1
        self.assertGreater(min(seen), 10)

    def test_unlike_spaces(self):
        self.exactly(move_between(SPACE, SPACE), ((1, 0), (0, 1)))
        # Other fields, widths, points or walls; the full tables of the first two are equal ones.
        narrow, wide = Space(SEVEN, [(1,)], [(1,)]), Space(SEVEN, [(1, 0)], [(1, 0)])
        self.assertEqual(full_table_of(narrow), full_table_of(wide))
        self.assertIsNone(move_between(narrow, wide))
        self.assertIsNone(move_between(narrow, Space(FIVE, [(1,)], [(1,)])))
        self.assertIsNone(move_between(narrow, Space(SEVEN, [(1,), (1,)], [(1,)])))
        self.assertIsNone(move_between(narrow, Space(SEVEN, [(1,)], [(1,), (1,)])))
        self.assertIsNone(move_between(narrow, Space(SEVEN, [(1,)], [(2,)])))
        self.exactly(move_between(narrow, Space(SEVEN, [(3,)], [(5,)])), ((3,),))

    def test_not_spanning(self):
        good, flat = [(1, 0), (0, 1)], [(1, 0), (3, 0)]
        other = Space(FIVE, [(1,)], [(1,)])
        for points, walls, what in ((flat, flat, "points"), (flat, good, "points"), (good, flat, "walls")):
            space = Space(SEVEN, points, walls)
            for told in (space, other, Space(SEVEN, good, good)):
                self.refused(NotSpanning, {"what": what}, move_between, space, told)
        # The other space need not be spanned: then there are no rows.
        self.assertIsNone(move_between(Space(SEVEN, good, good), Space(SEVEN, flat, flat)))

    def test_the_first_points_are_bound(self):
        chances = a_random(556)
        for field in FIELDS:
            base = [(field.one, field.zero, field.zero), (field.zero, field.one, field.zero)]
            last = (field.zero, field.one, field.one)
            space = Space(field, [base[0], base[0], base[1], base[1], last], no_zeros(field, base + [last]))
            rows = some_moves(field, chances, 3)
            self.exactly(move_between(space, moved_space(space, rows)), tuple(tuple(row) for row in rows))


if __name__ == "__main__":
    unittest.main()
