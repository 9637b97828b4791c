"""Sayings [1.5]."""

import unittest

from sheetproofs.errors import BadSaying, BadWhole
from sheetproofs.pictures import Picture, full_picture
from sheetproofs.sayings import check_saying, minus_saying, saying_sum, saying_times
from tests.helpers import NO_SEQUENCES, NO_WHOLES, Case, a_random, some_pictures, some_tours

SQUARE = full_picture(2, 2)
R = (1, -1, -1, 1)
GREAT = 10 ** 299
WRONG = (
    [(thing, "couple") for thing in NO_SEQUENCES + ((), (R,), (R, 0, 0), R, [None])]
    + [((thing, 7), "tour") for thing in NO_SEQUENCES]
    + [(((1, -1, -1), 0), "tour"), (((1, -1, -1, True), 0), "tour"), (((1, 0, 0, 0), None), "tour"),
       ([(1, -1, 0, 0), True], "tour"), ((0, R), "tour")]
    + [((R, thing), "sign") for thing in NO_WHOLES + (2, -1, 10 ** 30)]
)


class TestCheckSaying(Case):
    def test_a_saying_comes_back_as_tuples(self):
        for sign in (0, 1):
            for tour in (R, list(R), (0, 0, 0, 0), (GREAT, -GREAT, -GREAT, GREAT)):
                self.exactly(check_saying(SQUARE, (tour, sign)), (tuple(tour), sign))
                self.exactly(check_saying(SQUARE, [tour, sign]), (tuple(tour), sign))
        self.exactly(check_saying(Picture(2, 3, ()), [[], 1]), ((), 1))

    def test_what_is_wrong(self):
        for saying, what in WRONG:
            self.refused(BadSaying, {"what": what}, check_saying, SQUARE, saying)

    def test_later_changes_have_no_effect(self):
        tour = list(R)
        saying = [tour, 0]
        found = check_saying(SQUARE, saying)
        tour[0] = 5
        saying[1] = 1
        self.assertEqual(found, (R, 0))


class TestSums(Case):
    def test_minus_saying(self):
        for picture in some_pictures():
            self.exactly(minus_saying(picture), (tuple(0 for _ in picture.pairs), 1))

    def test_sum_and_times(self):
        chances = a_random(4)
        for picture in some_pictures():
            one, other = some_tours(picture, chances, 2)
            added = tuple(a + b for a, b in zip(one, other))
            for sign in (0, 1):
                for more in (0, 1):
                    self.exactly(saying_sum(picture, [list(one), sign], (other, more)),
                                 (added, 1 if sign + more == 1 else 0))
                for whole in (-3, -2, -1, 0, 1, 2, 5, GREAT + 1, -GREAT):
                    wanted = 1 if sign == 1 and whole % 2 == 1 else 0
                    self.exactly(saying_times(picture, [list(one), sign], whole),
                                 (tuple(whole * a for a in one), wanted))

    def test_errors(self):
        for saying, what in WRONG:
            self.refused(BadSaying, {"what": what}, saying_sum, SQUARE, saying, None)
            self.refused(BadSaying, {"what": what}, saying_sum, SQUARE, (R, 1), saying)
            self.refused(BadSaying, {"what": what}, saying_times, SQUARE, saying, None)
        for thing in NO_WHOLES:
            self.refused(BadWhole, {}, saying_times, SQUARE, (R, 1), thing)


if __name__ == "__main__":
    unittest.main()
