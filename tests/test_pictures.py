"""Pictures [1.1 to 1.3], and the general rules for them [0.1 to 0.6]."""

import unittest

from sheetproofs.errors import BadPicture, NotOpen
from sheetproofs.pictures import Picture, full_picture
from tests.helpers import NO_SEQUENCES, NO_WHOLES, Case, some_pictures

NO_PAIRS = NO_SEQUENCES + ((), (0,), (0, 0, 0), (True, 0), (0, False), (0, 2), (2, 0), (-1, 0),
                           (0, -1), (0.0, 0), ("0", 0), ((0,), 0), [0, None])


class TestPicture(Case):
    def test_example(self):
        picture = Picture(2, 2, [(1, 1), (0, 0), (0, 1), (1, 0)])
        self.exactly(picture.pairs, ((0, 0), (0, 1), (1, 0), (1, 1)))
        self.assertEqual((picture.points, picture.walls), (2, 2))
        self.assertEqual(len(picture), 4)

    def test_pairs_as_lists_in_any_order(self):
        pairs = [[4, 0], (0, 4), [0, 3], (2, 2)]
        picture = Picture(5, 5, pairs)
        self.exactly(picture.pairs, ((0, 3), (0, 4), (2, 2), (4, 0)))
        self.exactly(Picture(5, 5, tuple(pairs)).pairs, picture.pairs)

    def test_nothing_passed_in_is_changed_or_kept(self):
        first = [1, 1]
        pairs = [first, (0, 0)]
        picture = Picture(2, 2, pairs)
        self.assertEqual(pairs, [[1, 1], (0, 0)])
        first[0] = 0
        pairs.append((0, 1))
        self.exactly(picture.pairs, ((0, 0), (1, 1)))

    def test_one_to_five_points_and_walls(self):
        for points in range(1, 6):
            for walls in range(1, 6):
                picture = Picture(points, walls, ((points - 1, walls - 1),))
                self.assertEqual((picture.points, picture.walls, len(picture)), (points, walls, 1))

    def test_bad_points(self):
        for thing in NO_WHOLES + (0, 6, -1, 10 ** 30):
            self.refused(BadPicture, {"what": "points"}, Picture, thing, 2, ())
            self.refused(BadPicture, {"what": "points"}, Picture, thing, 9, "no")

    def test_bad_walls(self):
        for thing in NO_WHOLES + (0, 6, -1, 10 ** 30):
            self.refused(BadPicture, {"what": "walls"}, Picture, 2, thing, ())
            self.refused(BadPicture, {"what": "walls"}, Picture, 2, thing, ((7, 7),))

    def test_bad_pairs(self):
        for thing in NO_SEQUENCES:
            self.refused(BadPicture, {"what": "pair"}, Picture, 2, 2, thing)
        for thing in NO_PAIRS:
            self.refused(BadPicture, {"what": "pair"}, Picture, 2, 2, [thing])
            self.refused(BadPicture, {"what": "pair"}, Picture, 2, 2, ((0, 0), (0, 0), thing))

    def test_a_pair_twice(self):
        self.refused(BadPicture, {"what": "double"}, Picture, 2, 2, [(0, 1), (1, 1), (0, 1)])
        self.refused(BadPicture, {"what": "double"}, Picture, 2, 2, [(0, 1), [0, 1]])

    def test_equal(self):
        one = Picture(2, 3, [(0, 0), (1, 2)])
        self.assertTrue(one == Picture(2, 3, [[1, 2], (0, 0)]))
        self.assertFalse(one != Picture(2, 3, [[1, 2], (0, 0)]))
        self.assertFalse(one == Picture(3, 3, [(0, 0), (1, 2)]))
        self.assertFalse(one == Picture(2, 4, [(0, 0), (1, 2)]))
        self.assertFalse(one == Picture(2, 3, [(0, 0)]))
        self.assertFalse(one == Picture(2, 3, [(0, 0), (1, 1)]))
        for thing in (None, 5, ((0, 0), (1, 2)), (2, 3, ((0, 0), (1, 2))), object()):
            self.assertFalse(one == thing)
            self.assertTrue(one != thing)

    def test_equal_to_no_object_of_another_class(self):
        class Seeming:
            points, walls, pairs = 2, 3, ((0, 0), (1, 2))
        self.assertFalse(Picture(2, 3, [(0, 0), (1, 2)]) == Seeming())

    def test_length(self):
        self.assertEqual(len(Picture(5, 5, ())), 0)
        self.assertEqual(len(full_picture(5, 5)), 25)


class TestPairs(Case):
    def test_place_of(self):
        for picture in some_pictures():
            for place, pair in enumerate(picture.pairs):
                self.exactly(picture.place_of(pair), place)
                self.exactly(picture.place_of(list(pair)), place)

    def test_place_of_anything_else(self):
        picture = Picture(2, 2, ((0, 0), (1, 1)))
        for thing in NO_PAIRS + ((0, 1), [1, 0]):
            raised = self.refused(NotOpen, {}, picture.place_of, thing)
            self.assertIs(raised.pair, thing)

    def test_is_open(self):
        for picture in some_pictures():
            for point in range(picture.points):
                for wall in range(picture.walls):
                    wanted = (point, wall) in picture.pairs
                    self.assertIs(picture.is_open((point, wall)), wanted)
                    self.assertIs(picture.is_open([point, wall]), wanted)

    def test_anything_else_is_not_open(self):
        picture = full_picture(2, 2)
        for thing in NO_PAIRS:
            self.assertIs(picture.is_open(thing), False, thing)

    def test_with_pair(self):
        picture = Picture(2, 2, ((0, 0), (1, 1)))
        more = picture.with_pair([0, 1])
        self.exactly(more.pairs, ((0, 0), (0, 1), (1, 1)))
        self.assertTrue(more == Picture(2, 2, ((0, 0), (0, 1), (1, 1))))
        self.exactly(picture.pairs, ((0, 0), (1, 1)))
        self.assertTrue(picture.with_pair((1, 0)) == Picture(2, 2, ((0, 0), (1, 0), (1, 1))))

    def test_with_pair_refuses(self):
        picture = Picture(2, 2, ((0, 0), (1, 1)))
        for thing in NO_PAIRS:
            self.refused(BadPicture, {"what": "pair"}, picture.with_pair, thing)
        for thing in ((0, 0), [1, 1]):
            self.refused(BadPicture, {"what": "double"}, picture.with_pair, thing)
        self.exactly(picture.pairs, ((0, 0), (1, 1)))

    def test_without_pair(self):
        picture = Picture(2, 2, ((0, 0), (0, 1), (1, 1)))
        self.assertTrue(picture.without_pair([0, 1]) == Picture(2, 2, ((0, 0), (1, 1))))
        self.assertTrue(picture.without_pair((0, 0)) == Picture(2, 2, ((0, 1), (1, 1))))
        self.assertTrue(picture.without_pair((1, 1)) == Picture(2, 2, ((0, 0), (0, 1))))
        self.assertEqual(len(picture), 3)

    def test_without_pair_refuses(self):
        picture = Picture(2, 2, ((0, 0), (0, 1), (1, 1)))
        for thing in NO_PAIRS + ((1, 0), [1, 0]):
            raised = self.refused(NotOpen, {}, picture.without_pair, thing)
            self.assertIs(raised.pair, thing)

    def test_with_and_without_undo_one_another(self):
        for picture in some_pictures():
            for pair in picture.pairs:
                self.assertTrue(picture.without_pair(pair).with_pair(pair) == picture)


class TestFullPicture(Case):
    def test_every_pair_is_open(self):
        for points in range(1, 6):
            for walls in range(1, 6):
                picture = full_picture(points, walls)
                wanted = tuple((p, w) for p in range(points) for w in range(walls))
                self.exactly(picture.pairs, wanted)
                self.assertEqual((picture.points, picture.walls), (points, walls))

    def test_refuses(self):
        for thing in NO_WHOLES + (0, 6, -1):
            self.refused(BadPicture, {"what": "points"}, full_picture, thing, 2)
            self.refused(BadPicture, {"what": "points"}, full_picture, thing, thing)
            self.refused(BadPicture, {"what": "walls"}, full_picture, 2, thing)


def reached(picture, corner):
    """Return all corners, ("p", n) or ("w", n), that a walk over open pairs reaches."""
    found = [corner]
    for kind, number in found:
        for point, wall in picture.pairs:
            for here, there in ((("p", point), ("w", wall)), (("w", wall), ("p", point))):
                if here == (kind, number) and there not in found:
                    found.append(there)
    return found


class TestPieces(Case):
    def test_no_open_pair(self):
        self.exactly(Picture(2, 3, ()).pieces,
                     (((0,), ()), ((1,), ()), ((), (0,)), ((), (1,)), ((), (2,))))

    def test_several_pieces(self):
        picture = Picture(4, 5, [(0, 3), (3, 3), (2, 0), (2, 4)])
        self.exactly(picture.pieces,
                     (((0, 3), (3,)), ((1,), ()), ((2,), (0, 4)), ((), (1,)), ((), (2,))))

    def test_full(self):
        self.exactly(full_picture(5, 2).pieces, (((0, 1, 2, 3, 4), (0, 1)),))

    def test_pieces_that_late_pairs_join(self):
        picture = Picture(3, 3, [(0, 2), (1, 1), (2, 1), (2, 2)])
        self.exactly(picture.pieces, (((0, 1, 2), (1, 2)), ((), (0,))))

    def test_against_walks(self):
        for picture in some_pictures():
            wanted = []
            for point in range(picture.points):
                found = reached(picture, ("p", point))
                points = tuple(sorted(n for kind, n in found if kind == "p"))
                walls = tuple(sorted(n for kind, n in found if kind == "w"))
                if points[0] == point:
                    wanted.append((points, walls))
            for wall in range(picture.walls):
                if wall not in [w for _, w in picture.pairs]:
                    wanted.append(((), (wall,)))
            self.exactly(picture.pieces, tuple(wanted))


if __name__ == "__main__":
    unittest.main()
