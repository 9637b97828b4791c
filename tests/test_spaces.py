"""Spaces, their numbers, pictures and tables [8.2, 8.3]."""

import unittest

from sheetproofs.errors import BadSpace
from sheetproofs.fields import FractionField, RestField
from sheetproofs.pictures import Picture
from sheetproofs.spaces import Space, full_table_of, number_at, picture_of, table_of_space
from sheetproofs.tables import check_table
from tests.helpers import NO_SEQUENCES, NO_WHOLES, Case
from tests.linear import FIELDS, FRACTIONS, SEVEN, TWO, dot, some_spaces, table_of_rows
from tests.test_fields import NO_FRACTIONS

ROW, WALL = (1, 0, 6), (0, 2, 3)


class TestSpace(Case):
    def refuses(self, what, index, points, walls, field=SEVEN):
        self.refused(BadSpace, {"what": what, "index": index}, Space, field, points, walls)

    def test_attributes(self):
        points, walls = [[1, 0, 6], (0, 3, 0)], ([0, 2, 3],)
        space = Space(SEVEN, points, walls)
        self.exactly(space.points, (ROW, (0, 3, 0)))
        self.exactly(space.walls, (WALL,))
        self.exactly(space.width, 3)
        self.assertTrue(space.field == SEVEN)
        points[0][0] = 5
        points.append(ROW)
        walls[0][0] = 5
        self.exactly((space.points, space.walls), ((ROW, (0, 3, 0)), (WALL,)))

    def test_least_and_greatest(self):
        for field in FIELDS:
            space = Space(field, [(field.one,)], [(field.minus_one,)])
            self.assertEqual((space.width, space.points, space.walls), (1, ((field.one,),), ((field.minus_one,),)))
            row = (field.zero,) * 5 + (field.one,)
            space = Space(field, [row] * 5, (row,) * 5)
            self.assertEqual((space.width, space.points, space.walls), (6, (row,) * 5, (row,) * 5))

    def test_how_many_points_and_walls(self):
        for thing in NO_SEQUENCES + ((), [], [ROW] * 6, (None,) * 6):
            self.refuses("points", 0, thing, None)
            self.refuses("walls", 0, [None], thing)

    def test_first_point(self):
        for thing in NO_SEQUENCES + ((), [], (1,) * 7, (0,), (0,) * 6, "123"):
            self.refuses("point", 0, [thing], [None])
            self.refuses("point", 0, [thing, ROW], [ROW])
        for thing in NO_WHOLES + (7, -1, 10 ** 30, (1, 1)):
            self.refuses("point", 0, [(1, thing)], [ROW])
            self.refuses("point", 0, [[thing] * 6, None], [None])

    def test_other_points(self):
        for thing in NO_SEQUENCES + ((), (1, 0), (1, 0, 0, 0), [0, 0, 0], (1, 1, 7), (True, 1, 1), (-1, 1, 1)):
            self.refuses("point", 1, [ROW, thing, None], [None])
            self.refuses("point", 4, [ROW, ROW, ROW, ROW, thing], [thing])

    def test_walls(self):
        for thing in NO_SEQUENCES + ((), (1, 0), (1, 0, 0, 0), [0, 0, 0], (1, 1, 7), (True, 1, 1), (-1, 1, 1)):
            self.refuses("wall", 0, [ROW], [thing, None])
            self.refuses("wall", 4, [ROW], [ROW] * 4 + [thing])

    def test_numbers_of_other_fields(self):
        self.refuses("point", 0, [(2,)], [(1,)], TWO)
        self.refuses("wall", 0, [(1,)], [(2,)], TWO)
        self.refuses("point", 0, [(1,)], [(1,)], FRACTIONS)
        self.refuses("point", 0, [((1, 2),)], [((1, 2),)])
        for thing in NO_FRACTIONS:
            self.refuses("point", 0, [((1, 2), thing)], [None], FRACTIONS)
            self.refuses("wall", 1, [((1, 2),)], [((1, 2),), (thing,)], FRACTIONS)
        self.refuses("point", 1, [((1, 2),), ((0, 1),)], [None], FRACTIONS)
        self.refuses("wall", 0, [((-1, 2),)], [[(0, 1)]], FRACTIONS)

    def test_equality(self):
        space = Space(SEVEN, [ROW], [WALL, ROW])
        self.assertTrue(space == Space(RestField(7), ([1, 0, 6],), ([0, 2, 3], ROW)))
        for other in (Space(RestField(11), [ROW], [WALL, ROW]), Space(SEVEN, [ROW, ROW], [WALL, ROW]),
                      Space(SEVEN, [WALL], [WALL, ROW]), Space(SEVEN, [ROW], [ROW, WALL]),
                      Space(SEVEN, [ROW], [WALL]), None, (SEVEN, (ROW,), (WALL, ROW)), object()):
            self.assertFalse(space == other)
            self.assertTrue(space != other)
        half = [((1, 2), (0, 1))]
        self.assertTrue(Space(FRACTIONS, half, half) == Space(FractionField(), half, half))


class TestNumbers(Case):
    def test_small(self):
        space = Space(SEVEN, [ROW, (1, 1, 2)], [WALL, (1, 1, 2), (1, 1, 6)])
        self.exactly(number_at(space, 0, 0), 4)
        self.exactly(full_table_of(space), ((4, 6, 2), (1, 6, 0)))
        self.exactly(table_of_space(space), (4, 6, 2, 1, 6))
        self.assertTrue(picture_of(space) == Picture(2, 3, [(0, 0), (0, 1), (0, 2), (1, 0), (1, 1)]))

    def test_no_open_pair(self):
        for field in FIELDS:
            space = Space(field, [(field.one, field.zero)] * 5, [(field.zero, field.minus_one)] * 4)
            self.assertEqual(full_table_of(space), ((field.zero,) * 4,) * 5)
            self.assertEqual(table_of_space(space), ())
            self.assertTrue(picture_of(space) == Picture(5, 4, ()))

    def test_any_space(self):
        for space in some_spaces(511):
            full = full_table_of(space)
            self.exactly(full, table_of_rows(space.field, space.points, space.walls))
            pairs = []
            for point in range(len(space.points)):
                for wall in range(len(space.walls)):
                    self.exactly(number_at(space, point, wall), full[point][wall])
                    self.assertEqual(full[point][wall], dot(space.field, space.points[point], space.walls[wall]))
                    if full[point][wall] != space.field.zero:
                        pairs.append((point, wall))
            picture = picture_of(space)
            self.assertTrue(picture == Picture(len(space.points), len(space.walls), pairs))
            table = table_of_space(space)
            self.exactly(table, tuple(full[point][wall] for point, wall in pairs))
            self.exactly(check_table(space.field, picture, table), table)


if __name__ == "__main__":
    unittest.main()
