"""Bases [2.1 to 2.3]."""

import unittest

from sheetproofs.bases import basis_tours, other_places, row_of, tour_of, tree_places
from sheetproofs.errors import BadRow, BadTour
from sheetproofs.pictures import Picture, full_picture
from sheetproofs.tours import check_tour
from tests.helpers import (NO_SEQUENCES, NO_WHOLES, Case, a_random, closing_tours, path_between,
                           some_pictures, some_tours)

NINE = full_picture(3, 3)
SQUARE = full_picture(2, 2)
GREAT = 10 ** 299


class TestPlaces(Case):
    def test_example(self):
        self.exactly(tree_places(NINE), (0, 1, 2, 3, 6))
        self.exactly(other_places(NINE), (4, 5, 7, 8))
        self.exactly(tree_places(SQUARE), (0, 1, 2))

    def test_no_open_pair(self):
        for points, walls in ((1, 1), (5, 5), (3, 1)):
            self.exactly(tree_places(Picture(points, walls, ())), ())
            self.exactly(other_places(Picture(points, walls, ())), ())

    def test_a_pair_that_joins_late(self):
        picture = Picture(3, 3, [(0, 2), (1, 1), (1, 2), (2, 1), (2, 2)])
        self.exactly(tree_places(picture), (0, 1, 2, 3))
        self.exactly(other_places(picture), (4,))
        picture = Picture(3, 3, [(0, 0), (1, 1), (2, 0), (2, 1), (2, 2)])
        self.exactly(other_places(picture), ())

    def test_against_walks(self):
        for picture in some_pictures():
            tree = tuple(place for place, (point, wall) in enumerate(picture.pairs)
                         if path_between(picture.pairs[:place], point, wall) is None)
            self.exactly(tree_places(picture), tree)
            others = tuple(place for place in range(len(picture)) if place not in tree)
            self.exactly(other_places(picture), others)
            self.assertEqual(len(others), len(picture) - picture.points - picture.walls
                             + len(picture.pieces))


class TestBasisTours(Case):
    def test_example(self):
        tours = basis_tours(NINE)
        self.exactly(tours[0], (1, -1, 0, -1, 1, 0, 0, 0, 0))
        self.assertEqual(len(tours), 4)
        self.exactly(basis_tours(SQUARE), ((1, -1, -1, 1),))
        self.exactly(basis_tours(Picture(2, 3, ())), ())

    def test_one_at_its_place_and_no_other(self):
        for picture in some_pictures():
            self.exactly(basis_tours(picture), tuple(closing_tours(picture).values()))
            places = other_places(picture)
            self.assertEqual(len(basis_tours(picture)), len(places))
            for place, tour in zip(places, basis_tours(picture)):
                self.exactly(check_tour(picture, tour), tour)
                self.assertEqual([tour[other] for other in places],
                                 [1 if other == place else 0 for other in places])
                self.assertLessEqual(set(tour), {-1, 0, 1})

    def test_every_tour_is_a_sum_of_them(self):
        chances = a_random(21)
        for picture in some_pictures():
            for tour in some_tours(picture, chances, 2, GREAT):
                total = [0] * len(picture)
                for place, basis in zip(other_places(picture), basis_tours(picture)):
                    total = [a + tour[place] * b for a, b in zip(total, basis)]
                self.assertEqual(tuple(total), tour)


class TestTourOfRow(Case):
    def test_example(self):
        self.exactly(row_of(NINE, [1, 0, -1, -1, 1, 0, 0, -1, 1]), (1, 0, -1, 1))
        self.exactly(tour_of(NINE, [1, 0, -1, 1]), (1, 0, -1, -1, 1, 0, 0, -1, 1))
        self.exactly(tour_of(Picture(2, 1, ()), []), ())
        self.exactly(row_of(Picture(2, 1, ((0, 0),)), (0,)), ())

    def test_each_undoes_the_other(self):
        chances = a_random(22)
        for picture in some_pictures():
            for tour in some_tours(picture, chances, 2, 10 ** chances.choice((1, 100))):
                row = row_of(picture, list(tour))
                self.exactly(row, tuple(tour[place] for place in other_places(picture)))
                self.exactly(tour_of(picture, row), tour)
            row = [chances.randint(-GREAT, GREAT) for _ in other_places(picture)]
            tour = tour_of(picture, row)
            self.exactly(check_tour(picture, tour), tour)
            self.exactly(row_of(picture, tour), tuple(row))

    def test_bad_rows(self):
        for thing in NO_SEQUENCES + ((), (1, 2, 3), (1, 2, 3, 4, 5)):
            self.refused(BadRow, {}, tour_of, NINE, thing)
        for thing in NO_WHOLES:
            for at in range(4):
                row = [0, 1, 2, 3]
                row[at] = thing
                self.refused(BadRow, {}, tour_of, NINE, row)
        self.refused(BadRow, {}, tour_of, Picture(1, 1, ()), (0,))

    def test_bad_tours(self):
        for tour, what in ((None, "length"), ((0, 0, 0), "length"), ((0, 0, 0, True), "number"),
                           ((1, 0, 0, 0), "point"), ((1, -1, 0, 0), "wall")):
            self.refused(BadTour, {"what": what}, row_of, SQUARE, tour)

    def test_the_row_is_not_changed(self):
        row = [1, 0, -1, 1]
        tour_of(NINE, row)
        self.assertEqual(row, [1, 0, -1, 1])


if __name__ == "__main__":
    unittest.main()
