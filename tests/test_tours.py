"""Tours [1.4]."""

import unittest

from sheetproofs.errors import BadTour, BadWhole, NotOpen
from sheetproofs.pictures import Picture, full_picture
from sheetproofs.tours import check_tour, led_tour, no_tour, tour_size, tour_sum, tour_times
from tests.helpers import NO_SEQUENCES, NO_WHOLES, Case, a_random, some_pictures, some_tours

SQUARE = full_picture(2, 2)
GREAT = 10 ** 299
# Of each kind of fault one that has the later faults as well, as far as that can be.
WRONG = (
    [(thing, "length") for thing in NO_SEQUENCES]
    + [((1, -1, -1), "length"), ((1, -1, -1, 1, 0), "length"), ((), "length"), ([True], "length")]
    + [((0, 0, 0, thing), "number") for thing in NO_WHOLES]
    + [((True, 1, 5, 1), "number"), ([1, -1, -1, 1.0], "number"), ((5, 7, False, 1), "number")]
    + [((1, 0, -1, 0), "point"), ((1, 0, 0, 0), "point"), ((0, 0, 1, -2), "point")]
    + [((1, -1, 0, 0), "wall"), ((1, -1, 1, -1), "wall"), ((GREAT, -GREAT, 0, 0), "wall")]
)


class TestCheckTour(Case):
    def test_a_tour_comes_back_as_a_tuple(self):
        self.exactly(check_tour(SQUARE, [1, -1, -1, 1]), (1, -1, -1, 1))
        self.exactly(check_tour(SQUARE, (-2, 2, 2, -2)), (-2, 2, 2, -2))
        self.exactly(check_tour(SQUARE, (GREAT, -GREAT, -GREAT, GREAT)),
                     (GREAT, -GREAT, -GREAT, GREAT))
        self.exactly(check_tour(Picture(3, 1, ()), []), ())

    def test_what_is_wrong(self):
        for tour, what in WRONG:
            self.refused(BadTour, {"what": what}, check_tour, SQUARE, tour)

    def test_lonely_pairs(self):
        picture = Picture(1, 2, ((0, 0), (0, 1)))
        self.refused(BadTour, {"what": "wall"}, check_tour, picture, (1, -1))
        self.refused(BadTour, {"what": "point"}, check_tour, picture, (1, 0))
        picture = Picture(2, 1, ((0, 0), (1, 0)))
        self.refused(BadTour, {"what": "point"}, check_tour, picture, (1, -1))

    def test_the_tour_is_not_changed(self):
        tour = [1, -1, -1, 1]
        found = check_tour(SQUARE, tour)
        tour[0] = 9
        self.assertEqual(found, (1, -1, -1, 1))


class TestSums(Case):
    def test_no_tour(self):
        for picture in some_pictures():
            self.exactly(no_tour(picture), tuple(0 for _ in picture.pairs))

    def test_sum_times_size(self):
        chances = a_random(2)
        for picture in some_pictures():
            one, other = some_tours(picture, chances, 2)
            self.exactly(tour_sum(picture, list(one), other),
                         tuple(a + b for a, b in zip(one, other)))
            for whole in (-3, -1, 0, 1, 7, GREAT):
                self.exactly(tour_times(picture, list(one), whole), tuple(whole * a for a in one))
            self.exactly(tour_size(picture, list(one)), sum(abs(a) for a in one))

    def test_great_numbers(self):
        tour = (GREAT, -GREAT, -GREAT, GREAT)
        self.exactly(tour_size(SQUARE, tour), 4 * GREAT)
        self.exactly(tour_sum(SQUARE, tour, tour_times(SQUARE, tour, -1)), (0, 0, 0, 0))

    def test_errors_of_both_tours(self):
        good = (1, -1, -1, 1)
        for tour, what in WRONG:
            self.refused(BadTour, {"what": what}, tour_sum, SQUARE, tour, "no")
            self.refused(BadTour, {"what": what}, tour_sum, SQUARE, good, tour)
            self.refused(BadTour, {"what": what}, tour_times, SQUARE, tour, None)
            self.refused(BadTour, {"what": what}, tour_size, SQUARE, tour)
        for thing in NO_WHOLES:
            self.refused(BadWhole, {}, tour_times, SQUARE, good, thing)


class TestLedTour(Case):
    def test_the_same_numbers_at_the_same_pairs(self):
        other = Picture(3, 3, [(0, 0), (0, 1), (1, 0), (1, 1), (2, 2), (0, 2)])
        self.exactly(led_tour(SQUARE, other, [1, -1, -1, 1]), (1, -1, 0, -1, 1, 0))
        self.exactly(led_tour(other, SQUARE, (1, -1, 0, -1, 1, 0)), (1, -1, -1, 1))
        self.exactly(led_tour(other, Picture(1, 1, ()), (0,) * 6), ())
        self.exactly(led_tour(Picture(1, 1, ()), other, ()), (0,) * 6)

    def test_there_and_back(self):
        chances = a_random(3)
        for picture in some_pictures():
            wide = full_picture(5, 5)
            for tour in some_tours(picture, chances):
                led = led_tour(picture, wide, tour)
                self.exactly(check_tour(wide, led), led)
                self.assertEqual(sum(map(abs, led)), sum(map(abs, tour)))
                self.exactly(led_tour(wide, picture, led), tour)

    def test_errors(self):
        for tour, what in WRONG:
            self.refused(BadTour, {"what": what}, led_tour, SQUARE, Picture(1, 1, ()), tour)
        other = Picture(2, 2, ((0, 0), (1, 1)))
        self.refused(NotOpen, {"pair": (0, 1)}, led_tour, SQUARE, other, (1, -1, -1, 1))
        self.refused(NotOpen, {"pair": (0, 0)}, led_tour, SQUARE, Picture(1, 1, ()), [1, -1, -1, 1])
        narrow = full_picture(2, 1)
        self.refused(NotOpen, {"pair": (0, 1)}, led_tour, SQUARE, narrow, (1, -1, -1, 1))
        self.refused(NotOpen, {"pair": (1, 0)}, led_tour, SQUARE, full_picture(1, 2),
                     (GREAT, -GREAT, -GREAT, GREAT))
        self.refused(BadTour, {"what": "length"}, led_tour, narrow, SQUARE, (0, 0, 0, 0))


if __name__ == "__main__":
    unittest.main()
