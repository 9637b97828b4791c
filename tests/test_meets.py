"""Lines that meet two walls in one point, and the books of such tiles [8.4, 8.5]."""

import unittest
from itertools import product

from sheetproofs.books import Book
from sheetproofs.meets import Meet, line_meets, tile_book, tiles_that_hold
from sheetproofs.rings import ring_tour, tiles_of
from sheetproofs.spaces import Space, number_at, picture_of, table_of_space
from sheetproofs.tables import worth_of
from tests.helpers import Case, a_random
from tests.linear import FIVE, FRACTIONS, SEVEN, THREE, TWO, a_space, dot, some_spaces, summed

# Number 0 of the points 0 and 1 with wall 0; the points 2 and 3 are multiples of point 0.
PLANE = Space(SEVEN, [(1, 0), (0, 1), (3, 0), (6, 0)], [(0, 1), (1, 0), (1, 1), (1, 6), (2, 2)])


def all_meets(space, p, q, u, v):
    """Return all weights, not both zero, whose row lies on both walls; the field is small."""
    field = space.field
    found = []
    for weights in product(range(field.prime), repeat=2):
        row = summed(field, weights, (space.points[p], space.points[q]), space.width)
        if any(weights) and not dot(field, row, space.walls[u]) and not dot(field, row, space.walls[v]):
            found.append(weights)
    return found


class TestLineMeets(Case):
    def meets(self, *places):
        """Return the weights and the row on the plane, or None."""
        found = line_meets(PLANE, *places)
        return None if found is None else (found.first, found.second, found.row)

    def test_small(self):
        self.exactly(self.meets(0, 1, 2, 4), (1, 6, (1, 6)))
        self.exactly(self.meets(1, 0, 4, 2), (1, 6, (6, 1)))
        self.assertIsNone(self.meets(0, 1, 2, 3))
        self.exactly(self.meets(0, 2, 1, 2), (1, 2, (0, 0)))
        self.exactly(self.meets(0, 3, 1, 2), (1, 1, (0, 0)))
        self.exactly(self.meets(0, 0, 1, 2), (1, 6, (0, 0)))
        self.exactly(self.meets(0, 1, 3, 3), (1, 1, (1, 1)))

    def test_points_on_walls(self):
        # Both points on both walls: the weights are zero and one.
        self.exactly(self.meets(0, 2, 0, 0), (0, 1, (3, 0)))
        self.exactly(self.meets(0, 0, 0, 0), (0, 1, (1, 0)))
        # One of the points on both walls.
        self.exactly(self.meets(0, 1, 0, 0), (1, 0, (1, 0)))
        self.exactly(self.meets(1, 0, 0, 0), (0, 1, (1, 0)))
        # Both points on one wall, so that the other one decides.
        self.exactly(self.meets(0, 2, 0, 1), (1, 2, (0, 0)))
        self.exactly(self.meets(0, 3, 2, 0), (1, 1, (0, 0)))
        self.assertIsNone(self.meets(0, 1, 0, 1))
        self.assertIsNone(self.meets(0, 1, 0, 2))

    def test_fractions(self):
        space = Space(FRACTIONS, [((1, 2), (0, 1)), ((0, 1), (-1, 3))], [((1, 1), (1, 1)), ((-2, 3), (-2, 3)),
                                                                        ((1, 1), (0, 1))])
        found = line_meets(space, 0, 1, 0, 1)
        self.exactly((found.first, found.second, found.row), ((1, 1), (3, 2), ((1, 2), (-1, 2))))
        self.assertIsNone(line_meets(space, 0, 1, 0, 2))

    def test_against_all_weights(self):
        chances = a_random(521)
        seen = [0, 0, 0]
        for field in (TWO, THREE, FIVE):
            for _ in range(150):
                space = a_space(field, chances, chances.choice((1, 2, 3, 4)))
                p, q = [chances.randrange(len(space.points)) for _ in range(2)]
                u, v = [chances.randrange(len(space.walls)) for _ in range(2)]
                wanted, found = all_meets(space, p, q, u, v), line_meets(space, p, q, u, v)
                if not wanted:
                    self.assertIsNone(found)
                    seen[0] += 1
                    continue
                self.assertIsInstance(found, Meet)
                told = (found.first, found.second)
                if len(wanted) == field.prime ** 2 - 1:
                    self.exactly(told, (0, 1))
                    seen[1] += 1
                else:
                    self.exactly(told, [weights for weights in wanted if weights[weights[0] == 0] == 1][0])
                    seen[2] += 1
                self.exactly(found.row, summed(field, told, (space.points[p], space.points[q]), space.width))
        self.assertGreater(min(seen), 10)

    def test_any_space(self):
        for space in some_spaces(522):
            field = space.field
            for p, q in product(range(len(space.points)), repeat=2):
                for u, v in product(range(len(space.walls)), repeat=2):
                    found = line_meets(space, p, q, u, v)
                    crossed = [field.times(number_at(space, p, one), number_at(space, q, other))
                               for one, other in ((u, v), (v, u))]
                    self.assertIs(found is not None, crossed[0] == crossed[1])
                    if found is not None:
                        lead = found.first if found.first != field.zero else found.second
                        self.assertEqual(lead, field.one)
                        self.exactly(found.row, summed(field, (found.first, found.second),
                                                       (space.points[p], space.points[q]), space.width))
                        for wall in (u, v):
                            self.assertEqual(dot(field, found.row, space.walls[wall]), field.zero)

    def test_result(self):
        self.check_result(Meet, "first second row")


class TestTiles(Case):
    def test_all_tiles_hold(self):
        space = Space(SEVEN, [(1,)] * 5, [(3,)] * 5)
        tiles = list(tiles_that_hold(space))
        self.exactly(tuple(tiles), tiles_of(picture_of(space)))
        self.assertEqual(len(tiles), 100)
        book = tile_book(space)
        self.assertIsInstance(book, Book)
        self.assertEqual(len(book), 10)
        self.exactly(book.premises, tuple((ring_tour(picture_of(space), tile), 0) for tile in tiles[:10]))

    def test_small(self):
        space = Space(SEVEN, [(1, 1), (1, 1), (1, 2)], [(1, 0), (2, 0), (0, 1)])
        self.exactly(tuple(tiles_that_hold(space)),
                     ((0, 0, 1, 1), (0, 0, 1, 2), (0, 0, 2, 1), (0, 1, 1, 2), (1, 0, 2, 1)))

    def test_no_tiles(self):
        shut = Space(SEVEN, [(1, 0), (0, 1)], [(1, 0), (0, 1)])
        self.assertEqual(list(tiles_that_hold(shut)), [])
        self.assertTrue(tile_book(shut) == Book(picture_of(shut), ()))
        unlike = Space(SEVEN, [(1, 0), (0, 1)], [(1, 1), (1, 2)])
        self.assertEqual(list(tiles_that_hold(unlike)), [])
        self.assertTrue(tile_book(unlike) == Book(picture_of(unlike), ()))

    def test_any_space(self):
        seen = 0
        for space in some_spaces(523):
            picture, field = picture_of(space), space.field
            wanted = []
            for p, u, q, v in product(range(len(space.points)), range(len(space.walls)), repeat=2):
                if p < q and u < v and {(p, u), (p, v), (q, u), (q, v)} <= set(picture.pairs):
                    tour = ring_tour(picture, (p, u, q, v))
                    if worth_of(field, picture, table_of_space(space), tour) == field.one:
                        wanted.append((p, u, q, v))
                        seen += 1
            self.exactly(tuple(tiles_that_hold(space)), tuple(wanted))
            book = tile_book(space)
            self.assertTrue(book.picture == picture)
            self.exactly(book.premises, tuple((ring_tour(picture, tile), 0) for tile in wanted[:10]))
        self.assertGreater(seen, 100)


if __name__ == "__main__":
    unittest.main()
