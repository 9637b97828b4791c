"""Full tables, and the spaces that have them [8.9 to 8.11]."""

import unittest
from itertools import product

from sheetproofs.errors import BadFull, BadTable
from sheetproofs.fields import RestField
from sheetproofs.leastspace import check_full, full_of, least_space, least_width, unit_space
from sheetproofs.pictures import Picture
from sheetproofs.spaces import Space, full_table_of, picture_of, table_of_space
from tests.helpers import NO_SEQUENCES, NO_WHOLES, Case, a_random, some_pictures
from tests.linear import FIELDS, FRACTIONS, SEVEN, THREE, TWO, dot, rank, some_rows
from tests.test_fields import NO_FRACTIONS
from tests.test_tables import GOOD, SQUARE, WRONG, a_table

# Full tables over the field of 7 that are none, with the index that is due.
WRONG_FULL = (
    [(thing, -1) for thing in NO_SEQUENCES + ((), [], [(1,)] * 6, (None,) * 6)]
    + [((thing, None), 0) for thing in NO_SEQUENCES + ((), [], (1,) * 6, (None,), (7,), (-1, 0), (True,), ((1, 1),))]
    + [([(1, 2), thing, None], 1) for thing in NO_SEQUENCES + ((), (1,), (1, 2, 3), (1, 7), [1, True], "12")]
    + [([[0]] * 4 + [[thing]], 4) for thing in NO_WHOLES + (7, -1, 10 ** 30)]
)


def some_full_tables(seed, fields=FIELDS, many=40):
    """Return couples of a field and a full table, many of low rank, with rows and walls of zeros."""
    chances = a_random(seed)
    found = []
    for field in fields:
        for _ in range(many):
            points, walls = chances.randint(1, 5), chances.randint(1, 5)
            rows = [list(row) for row in some_rows(field, chances, points, walls)]
            if chances.random() < 0.3:
                for row in rows:
                    row[-1] = field.zero
            found.append((field, rows))
        found.append((field, [[field.one if at == k < 4 else field.zero for at in range(5)] for k in range(5)]))
    return found


def width_of(field, full):
    """Return the rank and one for each of a row and a wall with zeros alone."""
    rows = any(all(n == field.zero for n in row) for row in full)
    walls = any(all(row[at] == field.zero for row in full) for at in range(len(full[0])))
    return rank(field, full) + rows + walls


class TestCheckFull(Case):
    def test_good(self):
        self.exactly(check_full(SEVEN, [[0, 1], (2, 6)]), ((0, 1), (2, 6)))
        self.exactly(check_full(SEVEN, ([0],)), ((0,),))
        self.exactly(check_full(SEVEN, [[0] * 5] * 5), ((0,) * 5,) * 5)
        self.exactly(check_full(FRACTIONS, [[(-1, 2), (0, 1)]]), (((-1, 2), (0, 1)),))

    def test_wrong(self):
        for function in (check_full, least_width, least_space, unit_space):
            for full, index in WRONG_FULL:
                self.refused(BadFull, {"index": index}, function, SEVEN, full)
            for thing in NO_FRACTIONS:
                self.refused(BadFull, {"index": 0}, function, FRACTIONS, [[(0, 1), thing], None])
            self.refused(BadFull, {"index": 1}, function, TWO, [[1], [2]])

    def test_nothing_passed_in_is_changed(self):
        full = [[0, 1], [0, 2]]
        for function in (check_full, least_width, least_space, unit_space):
            function(SEVEN, full)
        self.assertEqual(full, [[0, 1], [0, 2]])


class TestFullOf(Case):
    def test_small(self):
        picture = Picture(3, 2, [(0, 1), (2, 0)])
        self.exactly(full_of(SEVEN, picture, [3, 4]), ((0, 3), (0, 0), (4, 0)))
        self.exactly(full_of(SEVEN, Picture(1, 2, ()), ()), ((0, 0),))
        self.exactly(full_of(FRACTIONS, Picture(1, 2, [(0, 1)]), [(-1, 2)]), (((0, 1), (-1, 2)),))
        self.exactly(full_of(SEVEN, SQUARE, GOOD), ((2, 3), (4, 5)))

    def test_any_picture(self):
        chances = a_random(541)
        for picture in some_pictures():
            for field in FIELDS:
                table = a_table(field, chances, len(picture))
                full = full_of(field, picture, table)
                self.assertEqual((len(full), {len(row) for row in full}), (picture.points, {picture.walls}))
                for point, row in enumerate(full):
                    for wall, number in enumerate(row):
                        pair = (point, wall)
                        due = table[picture.pairs.index(pair)] if pair in picture.pairs else field.zero
                        self.assertEqual(number, due)
                space = unit_space(field, full)
                self.assertTrue(picture_of(space) == picture)
                self.assertEqual(table_of_space(space), table)

    def test_wrong_tables(self):
        for table, index in WRONG:
            self.refused(BadTable, {"index": index}, full_of, SEVEN, SQUARE, table)


class TestLeastSpace(Case):
    def test_small(self):
        self.assertEqual(least_width(SEVEN, [[0]]), 2)
        self.assertEqual(least_width(SEVEN, [[0] * 5] * 5), 2)
        self.assertEqual(least_width(SEVEN, [[3]]), 1)
        self.assertEqual(least_width(SEVEN, [[1, 2], [3, 6]]), 1)
        self.assertEqual(least_width(SEVEN, [[1, 2], [3, 5]]), 2)
        self.assertEqual(least_width(SEVEN, [[1, 2], [0, 0]]), 2)
        self.assertEqual(least_width(SEVEN, [[1, 0], [2, 0]]), 2)
        self.assertEqual(least_width(SEVEN, [[1, 0], [0, 0]]), 3)
        eye = [[int(p == w) for w in range(5)] for p in range(5)]
        self.assertEqual(least_width(SEVEN, eye), 5)
        self.assertEqual(least_width(SEVEN, eye[:4] + [[0] * 5]), 6)
        self.assertEqual(least_width(SEVEN, eye[:4]), 5)
        self.assertEqual(least_width(TWO, [[1, 1, 0], [0, 1, 1], [1, 0, 1]]), 2)
        self.assertEqual(least_width(THREE, [[1, 1, 0], [0, 1, 1], [1, 0, 1]]), 3)

    def test_any_table(self):
        seen = {}
        for field, full in some_full_tables(542):
            wanted = width_of(field, full)
            self.exactly(least_width(field, full), wanted)
            space = least_space(field, full)
            self.assertIsInstance(space, Space)
            self.assertTrue(space.field == field)
            self.exactly(space.width, wanted)
            self.exactly(full_table_of(space), tuple(tuple(row) for row in full))
            self.is_tuples((space.points, space.walls))
            seen[wanted] = seen.get(wanted, 0) + 1
        self.assertEqual(sorted(seen), [1, 2, 3, 4, 5, 6])

    def test_no_less_width(self):
        for prime, points, walls, most in ((2, 2, 2, 3), (2, 2, 3, 3), (3, 2, 1, 3), (3, 2, 2, 2)):
            field, least = RestField(prime), {}
            for width in range(1, most + 1):
                rows = [row for row in product(range(prime), repeat=width) if any(row)]
                numbers = {(one, other): dot(field, one, other) for one in rows for other in rows}
                for some in product(rows, repeat=points):
                    for others in product(rows, repeat=walls):
                        full = tuple(tuple(numbers[one, other] for other in others) for one in some)
                        least.setdefault(full, width)
            for full in product(product(range(prime), repeat=walls), repeat=points):
                found = least_width(field, full)
                self.assertEqual(found, least.get(full, most + 1))


class TestUnitSpace(Case):
    def test_small(self):
        space = unit_space(SEVEN, [[1, 2, 3], [0, 5, 6]])
        self.exactly((space.width, space.points, space.walls), (2, ((1, 0), (0, 1)), ((1, 0), (2, 5), (3, 6))))
        space = unit_space(SEVEN, ((1, 0, 3), (2, 0, 0)))
        self.exactly(space.points, ((1, 0, 0), (0, 1, 0)))
        self.exactly(space.walls, ((1, 2, 0), (0, 0, 1), (3, 0, 0)))
        space = unit_space(SEVEN, [[1], [0]])
        self.exactly((space.points, space.walls), (((1, 0), (0, 1)), ((1, 0),)))
        space = unit_space(SEVEN, [[0, 0]] * 5)
        self.exactly((space.width, space.walls), (6, ((0, 0, 0, 0, 0, 1),) * 2))

    def test_any_table(self):
        for field, full in some_full_tables(543):
            space = unit_space(field, full)
            many, walls = len(full), len(full[0])
            shut = [all(row[at] == field.zero for row in full) for at in range(walls)]
            self.assertTrue(space.field == field)
            self.exactly(space.width, many + any(shut))
            for at, point in enumerate(space.points):
                self.exactly(point, tuple(field.one if k == at else field.zero for k in range(space.width)))
            for at, row in enumerate(space.walls):
                tail = (field.one if shut[at] else field.zero,) if any(shut) else ()
                self.exactly(row, tuple(numbers[at] for numbers in full) + tail)
            self.exactly(full_table_of(space), tuple(tuple(row) for row in full))


if __name__ == "__main__":
    unittest.main()
