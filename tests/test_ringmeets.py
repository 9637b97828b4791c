"""Side points, the wall through them, and the common point of the spans of a ring [8.6 to 8.8]."""

import unittest
from itertools import product

from sheetproofs.errors import BadRing
from sheetproofs.rings import ring_tour
from sheetproofs.ringmeets import Common, Spanned, Through, common_point, side_points, wall_through
from sheetproofs.spaces import Space, number_at, picture_of, table_of_space
from sheetproofs.tables import worth_of
from tests.helpers import Case, a_random, in_good_time
from tests.linear import FIELDS, FIVE, FRACTIONS, GREAT, SEVEN, THREE, TWO, a_space, dot, rank, summed
from tests.test_rings import some_rings

RING = (0, 0, 1, 1, 2, 2)
UNITS = [(1, 0, 0), (0, 1, 0), (0, 0, 1)]
ONE = Space(SEVEN, UNITS, [(1, 1, 1)] * 3)
MINUS = Space(SEVEN, UNITS, [(1, 1, 1), (1, 1, 1), (1, 0, 6)])
# The points of this space lie on no wall with the same number.
WRONG = (("length", None), ("length", (0, 0, 1)), ("length", (0, 0)), ("length", (0, 0) * 31), ("corner", (0, 3, 1, 1)),
         ("corner", (0, 0, 3, 1)), ("corner", (True, 0, 1, 1)), ("pair", (0, 0, 1, 2)), ("pair", [1, 1, 1, 2]))


def numbers_of(space, ring):
    """Return the rows of the points of a ring and their numbers a and b."""
    many = len(ring) // 2
    points = [space.points[ring[2 * at]] for at in range(many)]
    before = [number_at(space, ring[2 * at], ring[2 * at + 1]) for at in range(many)]
    behind = [number_at(space, ring[2 * (at + 1) % len(ring)], ring[2 * at + 1]) for at in range(many)]
    return points, before, behind


def some_space_rings(seed, fields=FIELDS, many=25, longest=60, width=None):
    """Return couples of a space and a ring of its picture."""
    chances = a_random(seed)
    found = []
    for field in fields:
        for _ in range(many):
            space = a_space(field, chances, width and chances.randint(1, width))
            picture = picture_of(space)
            for ring in some_rings(picture, chances, 1) + short_rings(picture, chances):
                ring = ring[:2 * chances.randint(2, longest // 2)]
                if (ring[0], ring[-1]) in picture.pairs:
                    found.append((space, ring))
    return found


def short_rings(picture, chances):
    """Return rings of a few points and walls, most of them unlike."""
    found = []
    for _ in range(20):
        many = chances.randint(2, 5)
        ring = [part for at in range(many) for part in (chances.randrange(picture.points),
                                                        chances.randrange(picture.walls))]
        pairs = [(ring[at - at % 2], ring[(at - 1 + at % 2) % len(ring)]) for at in range(len(ring))]
        pairs += [(ring[at], ring[at + 1]) for at in range(0, len(ring), 2)]
        if all(pair in picture.pairs for pair in pairs):
            found.append(tuple(ring))
    return found[:2]


def worth(space, ring):
    """Return the worth of the tour of a ring."""
    picture = picture_of(space)
    return worth_of(space.field, picture, table_of_space(space), ring_tour(picture, ring))


class TestExample(Case):
    def test_worth_one(self):
        self.exactly(side_points(ONE, RING), ((1, 6, 0), (0, 1, 6), (6, 0, 1)))
        found = wall_through(ONE, list(RING))
        self.assertIsInstance(found, Through)
        self.is_tuples(found.wall)
        self.assertEqual(len(set(found.wall)), 1)
        self.assertNotEqual(found.wall, (0, 0, 0))
        self.assertIsNone(common_point(ONE, RING))

    def test_worth_minus_one(self):
        self.exactly(number_at(MINUS, 2, 2), 6)
        self.exactly(number_at(MINUS, 0, 2), 1)
        self.assertEqual(worth(MINUS, RING), 6)
        self.exactly(side_points(MINUS, RING), ((1, 6, 0), (0, 1, 6), (1, 0, 1)))
        self.assertIsInstance(wall_through(MINUS, RING), Spanned)
        found = common_point(MINUS, list(RING))
        self.assertTrue(found == Common((1, 6, 1), (1, 6, 1)))


class TestSidePoints(Case):
    def test_two_points(self):
        space = Space(SEVEN, [(1, 0), (2, 3)], [(1, 1), (3, 0)])
        self.exactly(side_points(space, (0, 0, 1, 1)), ((3, 4), (0, 2)))
        self.exactly(side_points(space, (0, 0, 0, 0)), ((0, 0), (0, 0)))
        self.exactly(side_points(space, [0, 0, 0, 1]), ((0, 0), (0, 0)))

    def test_fractions(self):
        space = Space(FRACTIONS, [((1, 2), (0, 1)), ((0, 1), (-3, 1))], [((1, 1), (2, 3)), ((1, 3), (1, 1))])
        self.exactly(side_points(space, (0, 0, 1, 1)), (((-1, 1), (3, 2)), ((3, 2), (-1, 2))))

    def test_any_ring(self):
        for space, ring in some_space_rings(531):
            points, before, behind = numbers_of(space, ring)
            found = side_points(space, ring)
            self.is_tuples(found)
            self.assertEqual(len(found), len(points))
            for at, row in enumerate(found):
                wanted = summed(space.field, (behind[at], space.field.less(space.field.zero, before[at])),
                                (points[at], points[(at + 1) % len(points)]), space.width)
                self.assertEqual(row, wanted)
                self.assertEqual(dot(space.field, row, space.walls[ring[2 * at + 1]]), space.field.zero)


class TestWallThrough(Case):
    def check(self, space, ring):
        """Check what is returned, and tell whether it is Through."""
        field = space.field
        sides = side_points(space, ring)
        found = wall_through(space, ring)
        if isinstance(found, Through):
            self.is_tuples(found.wall)
            self.assertEqual([field.check_number(n) for n in found.wall], list(found.wall))
            self.assertEqual(len(found.wall), space.width)
            for row in sides:
                self.assertEqual(dot(field, row, found.wall), field.zero)
            for point in ring[::2]:
                self.assertNotEqual(dot(field, space.points[point], found.wall), field.zero)
            return True
        self.assertIsInstance(found, Spanned)
        self.is_tuples(found.weights)
        self.assertEqual(len(found.weights), len(sides))
        self.assertEqual(summed(field, found.weights, sides, space.width), space.points[ring[0]])
        return False

    def test_against_all_walls(self):
        seen = [0, 0]
        for space, ring in some_space_rings(532, (TWO, THREE, FIVE), 40, 12, 3):
            field = space.field
            sides = side_points(space, ring)
            good = [wall for wall in product(range(field.prime), repeat=space.width)
                    if all(dot(field, row, wall) == 0 for row in sides)
                    and all(dot(field, space.points[point], wall) for point in ring[::2])]
            self.assertIs(self.check(space, ring), bool(good))
            seen[bool(good)] += 1
        self.assertGreater(min(seen), 8)

    def test_any_ring(self):
        seen = {True: 0, False: 0}
        for space, ring in some_space_rings(533, longest=20, many=60):
            through = self.check(space, ring)
            if worth(space, ring) != space.field.one:
                self.assertIs(through, False)
            points, sides = numbers_of(space, ring)[0], side_points(space, ring)
            if rank(space.field, points) == len(points):
                self.assertIs(through, worth(space, ring) == space.field.one)
                self.assertEqual(rank(space.field, sides), len(points) - through)
                seen[through] += 1
        self.assertGreater(min(seen.values()), 4)

    def test_unbound_points(self):
        chances = a_random(534)
        seen = [0, 0]
        for field in FIELDS:
            for many in (2, 3, 4, 5):
                for told in range(8):
                    points = [[field.one if k == j else field.zero for k in range(many)] for j in range(many)]
                    walls = [[field.number_of(chances.choice((1, -1))) for _ in range(many)] for _ in range(5)]
                    space = Space(field, points, walls)
                    ring = [part for point in range(many) for part in (point, chances.randrange(5))]
                    through = self.check(space, ring)
                    self.assertIs(through, worth(space, ring) == field.one)
                    self.assertEqual(rank(field, side_points(space, ring)), many - through)
                    seen[through] += 1
        self.assertGreater(min(seen), 10)

    def test_a_point_twice(self):
        # The side points of this ring are zeros, so any wall off the point will do.
        self.assertTrue(self.check(ONE, (0, 0, 0, 1)))
        self.assertTrue(self.check(ONE, (0, 0, 1, 1) * 2))
        self.assertFalse(self.check(MINUS, (0, 0, 1, 1, 2, 2) * 2))


class TestCommonPoint(Case):
    def check(self, space, ring):
        """Check what is returned, and tell whether there is a common point."""
        field = space.field
        points, before, behind = numbers_of(space, ring)
        many = len(points)
        found = common_point(space, ring)
        due = field.one if many % 2 == 0 else field.minus_one
        self.assertIs(found is not None, worth(space, ring) == due)
        if found is None:
            return False
        self.assertIsInstance(found, Common)
        self.is_tuples((found.weights, found.row))
        self.assertEqual(len(found.weights), many)
        self.assertEqual(found.weights[0], field.one)
        for at in range(many):
            self.assertEqual(field.plus(field.times(behind[at], found.weights[(at + 1) % many]),
                                        field.times(before[at], found.weights[at])), field.zero)
        self.assertEqual(found.row, summed(field, found.weights, points, space.width))
        sides = side_points(space, ring)
        for at in range(many):
            left = [k for k in range(many) if k not in (at, (at + 1) % many)]
            weights = [field.quotient(found.weights[at], behind[at])] + [found.weights[k] for k in left]
            rows = [sides[at]] + [points[k] for k in left]
            self.assertEqual(summed(field, weights, rows, space.width), found.row)
        return True

    def test_against_all_weights(self):
        seen = [0, 0]
        for space, ring in some_space_rings(535, (TWO, THREE, FIVE), 12, 10, 3):
            _, before, behind = numbers_of(space, ring)
            prime, many = space.field.prime, len(before)
            good = [told for told in product(range(prime), repeat=many) if told[0] == 1
                    and all((behind[at] * told[(at + 1) % many] + before[at] * told[at]) % prime == 0
                            for at in range(many))]
            found = self.check(space, ring)
            self.assertEqual(len(good), found)
            if found:
                self.exactly(common_point(space, ring).weights, good[0])
            seen[found] += 1
        self.assertGreater(min(seen), 5)

    def test_any_ring(self):
        seen = [0, 0]
        for space, ring in some_space_rings(536):
            seen[self.check(space, ring)] += 1
        self.assertGreater(min(seen), 20)

    def test_even_and_odd_rings(self):
        self.assertTrue(self.check(ONE, (0, 0, 1, 1)))
        self.assertFalse(self.check(ONE, (0, 0, 1, 1, 2, 0)))
        self.assertTrue(self.check(ONE, (0, 0, 1, 1, 2, 0, 0, 2)))
        self.assertFalse(self.check(MINUS, (0, 1, 2, 2)))
        two = Space(TWO, UNITS, [(1, 1, 1)] * 3)
        self.assertTrue(self.check(two, RING))
        self.assertTrue(common_point(two, RING) == Common((1, 1, 1), (1, 1, 1)))


class TestErrors(Case):
    def test_no_rings(self):
        for what, ring in WRONG:
            for function in (side_points, wall_through, common_point):
                self.refused(BadRing, {"what": what}, function, MINUS, ring)

    def test_nothing_passed_in_is_changed(self):
        ring = list(RING)
        for function in (side_points, wall_through, common_point):
            function(ONE, ring)
        self.assertEqual(ring, [0, 0, 1, 1, 2, 2])

    @in_good_time
    def test_rings_of_sixty_corners(self):
        chances = a_random(537)
        for field in (THREE, GREAT, FRACTIONS):
            for width in (1, 6):
                row = lambda: [field.number_of(chances.choice((1, 2, -1, -2))) for _ in range(width)]
                while True:
                    space = Space(field, [row() for _ in range(5)], [row() for _ in range(5)])
                    if len(picture_of(space)) >= 12:
                        break
                rings = [ring for ring in some_rings(picture_of(space), chances, 40) if len(ring) > 50]
                self.assertGreater(len(rings), 0)
                for ring in rings:
                    TestWallThrough.check(self, space, ring)
                    TestCommonPoint.check(self, space, ring)
                ring = ring[:4] * 15
                TestCommonPoint.check(self, space, ring)
                TestWallThrough.check(self, space, ring)

    def test_results(self):
        self.check_result(Through, "wall")
        self.check_result(Spanned, "weights")
        self.check_result(Common, "weights row")
        self.assertFalse(Through((1,)) == Spanned((1,)))
        self.assertFalse(Spanned((1,)) == Through((1,)))


if __name__ == "__main__":
    unittest.main()
