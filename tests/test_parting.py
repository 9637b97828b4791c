"""Tours parted into rings [2.4]."""

import unittest

from sheetproofs.errors import BadTour, TooMany
from sheetproofs.parting import rings_fault, rings_of
from sheetproofs.pictures import Picture, full_picture
from tests.helpers import NO_SEQUENCES, Case, a_random, some_pictures, some_tours

SQUARE = full_picture(2, 2)
R = (1, -1, -1, 1)
TURN = (0, 0, 1, 1)
BACK = (0, 1, 1, 0)
BAD_TOURS = ((None, "length"), ((0, 0, 0), "length"), ((0, 0, 0, True), "number"),
             ((1, 0, 0, 0), "point"), ((1, -1, 0, 0), "wall"))


class TestRingsOf(Case):
    def check_parts(self, picture, tour):
        """Check, by the words of the document alone, that the rings part the tour."""
        rings = rings_of(picture, list(tour))
        self.is_tuples(rings)
        total = dict.fromkeys(picture.pairs, 0)
        sides = 0
        for ring in rings:
            self.assertIn(len(ring), range(4, 61, 2))
            for at, corner in enumerate(ring):
                after = ring[(at + 1) % len(ring)]
                pair = (corner, after) if at % 2 == 0 else (after, corner)
                step = 1 if at % 2 == 0 else -1
                self.assertGreater(step * tour[picture.pairs.index(pair)], 0)
                total[pair] += step
                sides += 1
        self.assertEqual(tuple(total.values()), tuple(tour))
        self.assertEqual(sides, sum(map(abs, tour)))
        self.assertIsNone(rings_fault(picture, tour, rings))
        self.assertIsNone(rings_fault(picture, list(tour), [list(ring) for ring in rings]))

    def test_tours_of_all_pictures(self):
        chances = a_random(31)
        for picture in some_pictures():
            for tour in some_tours(picture, chances, 4, chances.choice((1, 2, 9))):
                if sum(map(abs, tour)) <= 2000:
                    self.check_parts(picture, tour)

    def test_zeros(self):
        for picture in (Picture(3, 1, ()), SQUARE, full_picture(5, 5)):
            self.exactly(rings_of(picture, (0,) * len(picture)), ())

    def test_several_pieces(self):
        picture = Picture(4, 4, [(0, 0), (0, 1), (1, 0), (1, 1), (2, 2), (2, 3), (3, 2), (3, 3)])
        self.check_parts(picture, (1, -1, -1, 1, -2, 2, 2, -2))
        self.check_parts(picture, (0, 0, 0, 0, 3, -3, -3, 3))

    def test_sizes_up_to_2000(self):
        self.check_parts(SQUARE, (500, -500, -500, 500))
        self.check_parts(SQUARE, (-500, 500, 500, -500))
        wide = full_picture(5, 5)
        tour = [0] * 25
        for at in range(5):
            tour[wide.place_of((at, at))] += 200
            tour[wide.place_of((at, (at + 1) % 5))] -= 200
        self.check_parts(wide, tour)

    def test_greater_sizes(self):
        for times in (501, -501, 10 ** 299):
            tour = tuple(times * a for a in R)
            self.refused(TooMany, {"most": 2000}, rings_of, SQUARE, tour)
        hexagon = Picture(3, 3, [(0, 0), (0, 1), (1, 1), (1, 2), (2, 2), (2, 0)])
        turn = (1, -1, 1, -1, -1, 1)
        self.check_parts(hexagon, tuple(333 * a for a in turn))
        self.refused(TooMany, {"most": 2000}, rings_of, hexagon, tuple(334 * a for a in turn))

    def test_a_size_of_just_two_more(self):
        # 499 times the square with a ring of six sides makes 2002, and 2000 with one square less.
        wide = full_picture(4, 5)
        tour = dict.fromkeys(wide.pairs, 0)
        for pair, step in (((0, 0), 1), ((0, 1), -1), ((1, 0), -1), ((1, 1), 1)):
            tour[pair] += 499 * step
        self.check_parts(wide, tuple(tour.values()))
        for at in range(3):
            tour[(at + 1, at + 2)] += 1
            tour[(at + 1, (at + 1) % 3 + 2)] -= 1
        self.assertEqual(sum(map(abs, tour.values())), 2002)
        self.refused(TooMany, {"most": 2000}, rings_of, wide, tuple(tour.values()))

    def test_bad_tours(self):
        for tour, what in BAD_TOURS + (((2000, 2000, 2000, 2000), "point"),):
            self.refused(BadTour, {"what": what}, rings_of, SQUARE, tour)

    def test_the_tour_is_not_changed(self):
        tour = [2, -2, -2, 2]
        rings_of(SQUARE, tour)
        self.assertEqual(tour, [2, -2, -2, 2])


class TestRingsFault(Case):
    def test_right(self):
        self.assertIsNone(rings_fault(SQUARE, R, (TURN,)))
        self.assertIsNone(rings_fault(SQUARE, R, [[1, 1, 0, 0]]))
        self.assertIsNone(rings_fault(SQUARE, (0, 0, 0, 0), []))
        self.assertIsNone(rings_fault(SQUARE, (2, -2, -2, 2), (TURN, TURN)))
        self.assertIsNone(rings_fault(SQUARE, (2, -2, -2, 2), (TURN * 2,)))
        self.assertIsNone(rings_fault(SQUARE, (-30, 30, 30, -30), [BACK * 15, BACK * 15]))

    def test_many_rings(self):
        self.assertIsNone(rings_fault(SQUARE, (3000, -3000, -3000, 3000), (TURN * 15,) * 200))

    def test_ring(self):
        for thing in NO_SEQUENCES:
            self.assertEqual(rings_fault(SQUARE, R, thing), "ring")
            self.assertEqual(rings_fault(SQUARE, R, (TURN, thing)), "ring")
        for ring in ((), (0, 0), (0, 0, 1, 2), (0, 0, True, 1), TURN * 16, (0, 0, 1)):
            self.assertEqual(rings_fault(SQUARE, R, (ring,)), "ring")
            self.assertEqual(rings_fault(SQUARE, (5, -5, -5, 5), [TURN, ring]), "ring")
        self.assertEqual(rings_fault(SQUARE, R, TURN), "ring")
        hexagon = Picture(3, 3, [(0, 0), (0, 1), (1, 1), (1, 2), (2, 2), (2, 0)])
        self.assertEqual(rings_fault(hexagon, (0,) * 6, (TURN,)), "ring")

    def test_sum(self):
        self.assertEqual(rings_fault(SQUARE, R, ()), "sum")
        self.assertEqual(rings_fault(SQUARE, R, (BACK,)), "sum")
        self.assertEqual(rings_fault(SQUARE, R, (TURN, TURN)), "sum")
        self.assertEqual(rings_fault(SQUARE, (0, 0, 0, 0), (TURN,)), "sum")
        self.assertEqual(rings_fault(SQUARE, R, (TURN, BACK)), "sum")

    def test_struck(self):
        self.assertEqual(rings_fault(SQUARE, (0, 0, 0, 0), (TURN, BACK)), "struck")
        self.assertEqual(rings_fault(SQUARE, (0, 0, 0, 0), ((0, 0, 0, 0),)), "struck")
        self.assertEqual(rings_fault(SQUARE, R, (TURN, BACK, TURN)), "struck")
        self.assertEqual(rings_fault(SQUARE, R, ((0, 0, 0, 0, 1, 1),)), "struck")

    def test_bad_tours(self):
        for tour, what in BAD_TOURS:
            self.refused(BadTour, {"what": what}, rings_fault, SQUARE, tour, None)


if __name__ == "__main__":
    unittest.main()
