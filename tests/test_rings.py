"""Rings and tiles [1.6 to 1.8]."""

import unittest
from itertools import product

from sheetproofs.errors import BadRing, BadSign
from sheetproofs.pictures import Picture, full_picture
from sheetproofs.rings import (check_ring, ring_saying, ring_sides, ring_tour, tile_ring,
                               tiles_of, turned_ring)
from tests.helpers import NO_SEQUENCES, NO_WHOLES, Case, a_random, some_pictures, sums_of

SQUARE = full_picture(2, 2)
HEX = Picture(3, 3, [(0, 0), (0, 1), (1, 1), (1, 2), (2, 2), (2, 0)])
LONGEST = (0, 0, 1, 1) * 15
WRONG = (
    [(thing, "length") for thing in NO_SEQUENCES]
    + [((), "length"), ((0, 0), "length"), ((0, 0, 1), "length"), ((0, 0, 1, 1, 0), "length"),
       (LONGEST + (0, 0), "length"), (LONGEST + (0,), "length"), (LONGEST[:59], "length"),
       ([9, 9, 9], "length"), ((None,) * 62, "length")]
    + [((0, thing, 0, 0), "corner") for thing in NO_WHOLES + (3, -1)]
    + [((thing, 0, 0, 0), "corner") for thing in NO_WHOLES + (3, -1)]
    + [((0, 2, 1, 1, 2, 3), "corner"), ((0, 2, 1, 1, 3, 2), "corner"), ((0, 0, True, 1), "corner")]
    + [((0, 0, 1, 1), "pair"), ((0, 2, 2, 0), "pair"), ([0, 0, 2, 1], "pair"), ((1, 1, 2, 2), "pair")]
)


def some_rings(picture, chances, many=6):
    """Return rings made by walking over open pairs at random; they may pass corners several times."""
    rings = []
    for _ in range(many * 20):
        if len(rings) == many or not picture.pairs:
            break
        corners = list(chances.choice(picture.pairs))
        length = 2 * chances.randint(2, 30)
        while len(corners) < length:
            place = len(corners) % 2
            near = [pair[place] for pair in picture.pairs if pair[1 - place] == corners[-1]]
            corners.append(chances.choice(near))
        while len(corners) >= 4 and (corners[0], corners[-1]) not in picture.pairs:
            corners = corners[:-2]
        if len(corners) >= 4:
            rings.append(tuple(corners))
    return rings


class TestSides(Case):
    def test_example(self):
        self.exactly(ring_sides((0, 0, 1, 1)),
                     (((0, 0), 1), ((1, 0), -1), ((1, 1), 1), ((0, 1), -1)))

    def test_sides_of_any_ring(self):
        chances = a_random(5)
        for picture in some_pictures():
            for ring in some_rings(picture, chances):
                wanted = []
                count = len(ring) // 2
                points, walls = ring[0::2], ring[1::2]
                for i in range(count):
                    wanted.append(((points[i], walls[i]), 1))
                    wanted.append(((points[(i + 1) % count], walls[i]), -1))
                self.exactly(ring_sides(list(ring)), tuple(wanted))

    def test_it_checks_nothing(self):
        self.exactly(ring_sides([70, 80, 90, 100]),
                     (((70, 80), 1), ((90, 80), -1), ((90, 100), 1), ((70, 100), -1)))


class TestCheckRing(Case):
    def test_rings(self):
        self.exactly(check_ring(SQUARE, [0, 0, 1, 1]), (0, 0, 1, 1))
        self.exactly(check_ring(HEX, (0, 1, 1, 2, 2, 0)), (0, 1, 1, 2, 2, 0))
        self.exactly(check_ring(SQUARE, LONGEST), LONGEST)
        self.assertEqual(len(check_ring(SQUARE, list(LONGEST))), 60)

    def test_corners_and_pairs_several_times(self):
        self.exactly(check_ring(SQUARE, (0, 0, 0, 0)), (0, 0, 0, 0))
        self.exactly(check_ring(HEX, (0, 0, 0, 1)), (0, 0, 0, 1))
        self.exactly(check_ring(Picture(1, 1, ((0, 0),)), (0,) * 60), (0,) * 60)

    def test_what_is_wrong(self):
        for corners, what in WRONG:
            self.refused(BadRing, {"what": what}, check_ring, HEX, corners)
            self.refused(BadRing, {"what": what}, ring_tour, HEX, corners)
            self.refused(BadRing, {"what": what}, ring_saying, HEX, corners, 2)

    def test_the_last_side_must_be_open(self):
        picture = Picture(2, 2, ((0, 0), (1, 0), (1, 1)))
        self.refused(BadRing, {"what": "pair"}, check_ring, picture, (0, 0, 1, 1))
        self.refused(BadRing, {"what": "pair"}, check_ring, Picture(2, 2, ()), (0, 0, 1, 1))

    def test_the_row_is_not_changed(self):
        corners = [0, 0, 1, 1]
        found = check_ring(SQUARE, corners)
        corners[0] = 1
        self.assertEqual(found, (0, 0, 1, 1))


class TestRingTour(Case):
    def test_example(self):
        picture = Picture(2, 2, [(1, 1), (0, 0), (0, 1), (1, 0)])
        self.exactly(ring_tour(picture, (0, 0, 1, 1)), (1, -1, -1, 1))
        self.exactly(ring_tour(picture, [0, 1, 1, 0]), (-1, 1, 1, -1))

    def test_pairs_passed_several_times(self):
        self.exactly(ring_tour(SQUARE, LONGEST), (15, -15, -15, 15))
        self.exactly(ring_tour(SQUARE, (0, 0, 0, 0)), (0, 0, 0, 0))
        self.exactly(ring_tour(SQUARE, (0, 0, 1, 1, 0, 1, 1, 0)), (0, 0, 0, 0))

    def test_steps_are_added_at_their_pairs(self):
        chances = a_random(6)
        for picture in some_pictures():
            for ring in some_rings(picture, chances):
                tour = ring_tour(picture, list(ring))
                wanted = [0] * len(picture)
                for at in range(len(ring)):
                    pair = (ring[at], ring[(at + 1) % len(ring)])
                    if at % 2 == 0:
                        wanted[picture.pairs.index(pair)] += 1
                    else:
                        wanted[picture.pairs.index(pair[::-1])] -= 1
                self.exactly(tour, tuple(wanted))
                self.assertFalse(any(map(any, sums_of(picture, tour))))

    def test_ring_saying(self):
        for sign in (0, 1):
            self.exactly(ring_saying(SQUARE, [0, 0, 1, 1], sign), ((1, -1, -1, 1), sign))
        for thing in NO_WHOLES + (2, -1):
            self.refused(BadSign, {}, ring_saying, SQUARE, (0, 0, 1, 1), thing)


class TestTurnedRing(Case):
    def test_example(self):
        self.exactly(turned_ring((0, 0, 1, 1)), (0, 1, 1, 0))
        self.exactly(turned_ring([0, 1, 2, 3, 4, 5]), (0, 5, 4, 3, 2, 1))

    def test_it_checks_nothing(self):
        self.exactly(turned_ring((10, 20, 30)), (10, 30, 20))

    def test_sides_and_tours(self):
        chances = a_random(7)
        for picture in some_pictures():
            for ring in some_rings(picture, chances):
                turned = turned_ring(ring)
                self.exactly(turned_ring(list(turned)), ring)
                here, there = ring_sides(ring), ring_sides(turned)
                for t in range(len(ring)):
                    pair, step = here[t]
                    self.assertEqual(there[len(ring) - 1 - t], (pair, -step))
                self.exactly(ring_tour(picture, turned),
                             tuple(-a for a in ring_tour(picture, ring)))


class TestTiles(Case):
    def test_tile_ring(self):
        self.exactly(tile_ring(SQUARE, 0, 0, 1, 1), (0, 0, 1, 1))
        self.exactly(tile_ring(SQUARE, 1, 0, 0, 1), (1, 0, 0, 1))
        self.exactly(tile_ring(full_picture(2, 5), 1, 4, 0, 2), (1, 4, 0, 2))

    def test_no_corner(self):
        for at in range(4):
            for thing in NO_WHOLES + (3, -1):
                corners = [0, 0, 1, 1]
                corners[at] = thing
                self.refused(BadRing, {"what": "corner"}, tile_ring, HEX, *corners)
        self.refused(BadRing, {"what": "corner"}, tile_ring, full_picture(2, 3), 0, 0, 2, 1)
        self.refused(BadRing, {"what": "corner"}, tile_ring, full_picture(3, 2), 0, 0, 1, 2)

    def test_like_corners(self):
        self.refused(BadRing, {"what": "corner"}, tile_ring, SQUARE, 0, 0, 0, 1)
        self.refused(BadRing, {"what": "corner"}, tile_ring, SQUARE, 0, 1, 1, 1)
        self.refused(BadRing, {"what": "corner"}, tile_ring, HEX, 1, 0, 1, 2)

    def test_no_open_pair(self):
        for missing in SQUARE.pairs:
            self.refused(BadRing, {"what": "pair"}, tile_ring, SQUARE.without_pair(missing), 0, 0, 1, 1)

    def test_tiles_of(self):
        self.exactly(tiles_of(SQUARE), ((0, 0, 1, 1),))
        self.exactly(tiles_of(HEX), ())
        self.exactly(tiles_of(Picture(5, 5, ())), ())
        self.assertEqual(len(tiles_of(full_picture(5, 5))), 100)

    def test_tiles_of_all_pictures(self):
        for picture in some_pictures():
            wanted = []
            spans = (range(picture.points), range(picture.walls)) * 2
            for p, u, q, v in product(*spans):
                pairs = ((p, u), (q, u), (q, v), (p, v))
                if p < q and u < v and all(pair in picture.pairs for pair in pairs):
                    wanted.append((p, u, q, v))
            self.exactly(tiles_of(picture), tuple(wanted))


if __name__ == "__main__":
    unittest.main()
