"""Sheets made of derivations, and numbers read off sheets [7.10, 7.11]."""

import unittest

from sheetproofs.errors import (BadNumbers, BadPlace, BadPremise, BadRing, BadSign, NotPremise, NotSum, TooMany)
from sheetproofs.gluing import glue_in_order
from sheetproofs.pictures import full_picture
from sheetproofs.rings import ring_tour
from sheetproofs.sheetmakers import numbers_from, sheet_for
from sheetproofs.sheets import Sheet, last_sign, sheet_sign
from tests.glued import ALL, LINE, NINE, SQUARE, backwards, random_couples, read_from, some_sheets
from tests.helpers import NO_SEQUENCES, NO_WHOLES, Case, a_random, in_good_time
from tests.test_rings import some_rings

RING, BACK, SHORT = (0, 0, 1, 1), (0, 1, 1, 0), (0, 0, 0, 0)
GOOD = (RING, 1)
# Things that are no ring sayings of the square.
NO_PREMISES = NO_SEQUENCES + ((), (RING,), (RING, 0, 0), (None, 0), (0, RING), ((0, 0, 1), 0), ((0, 0, 1, 2), 0),
                              ((1, -1, -1, 1), 0)) + tuple((RING, thing) for thing in NO_WHOLES + (2, -1))


def added_up(picture, premises, numbers):
    """Return the tour and the sign to which ring sayings add up."""
    total, signs = [0] * len(picture), 0
    for (ring, sign), number in zip(premises, numbers):
        total = [a + number * b for a, b in zip(total, ring_tour(picture, ring))]
        signs += number * sign
    return tuple(total), signs % 2


class TestSheetFor(Case):
    def test_small(self):
        found = sheet_for(SQUARE, [[list(RING), 1]], [1], list(RING), 1)
        self.exactly(found.polygons, (RING, BACK))
        self.exactly(found.signs, (1, 1))
        self.assertTrue(found == glue_in_order(SQUARE, (RING, BACK), (1, 1)))
        found = sheet_for(SQUARE, (GOOD, (BACK, 0)), (-2, 1), BACK * 3, 0)
        self.exactly(found.polygons, (BACK, BACK, BACK, RING * 3))
        self.exactly(found.signs, (1, 1, 0, 0))

    def test_turned_and_repeated_polygons(self):
        found = sheet_for(SQUARE, [(RING, 1), (BACK, 0), (SHORT, 1)], (-2, 0, 4), BACK * 2, 0)
        self.exactly(found.polygons, (BACK, BACK, SHORT, SHORT, SHORT, SHORT, backwards(BACK * 2)))
        self.exactly(found.signs, (1, 1, 1, 1, 1, 1, 0))
        self.assertTrue(found == glue_in_order(SQUARE, found.polygons, found.signs))

    def test_no_premises(self):
        found = sheet_for(SQUARE, (), [], SHORT, 0)
        self.exactly((found.polygons, found.signs), ((SHORT,), (0,)))
        self.refused(NotSum, {"index": -1}, sheet_for, SQUARE, (), (), SHORT, 1)
        self.refused(NotSum, {"index": 0}, sheet_for, SQUARE, [GOOD] * 3, (0, 0, 0), RING, 1)

    def test_derivations(self):
        chances = a_random(341)
        seen = 0
        for picture in (SQUARE, NINE, ALL):
            for _ in range(25):
                rings = [ring[:chances.choice((4, 6, 8))] for ring in some_rings(picture, chances, 4)]
                # All begin at one point, so that they can be put one behind the other.
                rings = [ring for ring in rings if ring[0] == rings[0][0]]
                premises = [(read_from(ring, chances.randrange(len(ring) // 2)), chances.randint(0, 1))
                            for ring in rings]
                numbers = [chances.randint(-2, 2) for _ in rings]
                asked = ()
                for ring, number in zip(rings, numbers):
                    asked += (ring if number > 0 else backwards(ring)) * abs(number)
                if not 4 <= len(asked) <= 60:
                    continue
                sign = added_up(picture, premises, numbers)[1]
                found = sheet_for(picture, premises, numbers, asked, sign)
                seen += 1
                self.assertIsInstance(found, Sheet)
                self.assertEqual(sheet_sign(found), 0)
                wanted, signs = [], []
                for (ring, told), number in zip(premises, numbers):
                    wanted += [ring if number > 0 else backwards(ring)] * abs(number)
                    signs += [told] * abs(number)
                self.exactly(found.polygons, tuple(wanted) + (backwards(asked),))
                self.exactly(found.signs, tuple(signs) + (sign,))
                self.assertTrue(found == glue_in_order(picture, found.polygons, found.signs))
                self.refused(NotSum, {"index": -1}, sheet_for, picture, premises, numbers, asked, 1 - sign)
                again = numbers_from(found, len(found) - 1, premises)
                self.assertEqual(added_up(picture, premises, again), added_up(picture, premises, numbers))
        self.assertGreater(seen, 40)

    def test_not_sum(self):
        premises = [(RING, 0), ((0, 1, 1, 2), 1)]
        self.refused(NotSum, {"index": 0}, sheet_for, NINE, premises, (1, 0), (0, 1, 1, 2), 0)
        self.refused(NotSum, {"index": 1}, sheet_for, NINE, premises, (0, 2), (0, 1, 1, 2), 0)
        self.refused(NotSum, {"index": 4}, sheet_for, NINE, premises, (0, 0), (1, 1, 2, 2), 0)
        self.refused(NotSum, {"index": 0}, sheet_for, NINE, premises, (1, 0), BACK, 1)
        self.refused(NotSum, {"index": -1}, sheet_for, NINE, premises, (1, 0), RING, 1)

    def test_sixty_polygons_and_one_more(self):
        found = sheet_for(SQUARE, [(SHORT, 1)], (58,), SHORT, 0)
        self.assertEqual(len(found), 59)
        self.assertEqual(len(sheet_for(SQUARE, [(SHORT, 0), (RING, 1)], (59, 0), SHORT, 0)), 60)
        self.assertEqual(len(sheet_for(SQUARE, [(RING, 0), (BACK, 0)], (-29, -30), RING, 0)), 60)
        for numbers in ((60, 0), (-60, 0), (30, 30), (-30, 30), (10 ** 300, 0), (0, -10 ** 300)):
            self.refused(TooMany, {"most": 60}, sheet_for, SQUARE, [(SHORT, 0), (RING, 1)], numbers, SHORT, 0)

    def test_premises_that_are_none(self):
        self.assertEqual(len(sheet_for(SQUARE, [GOOD] * 16, (0,) * 16, SHORT, 0)), 1)
        for thing in NO_SEQUENCES + ([GOOD] * 17, [None] * 17):
            self.refused(BadPremise, {"index": -1}, sheet_for, SQUARE, thing, None, None, None)
        for thing in NO_PREMISES:
            self.refused(BadPremise, {"index": 0}, sheet_for, SQUARE, [thing, None], None, None, None)
            self.refused(BadPremise, {"index": 1}, sheet_for, SQUARE, (list(GOOD), thing), None, None, None)

    def test_numbers_corners_and_sign(self):
        for thing in NO_SEQUENCES + ((), (1,), (1, 1, 1)):
            self.refused(BadNumbers, {"index": -1}, sheet_for, SQUARE, [GOOD, GOOD], thing, None, None)
        for thing in NO_WHOLES:
            self.refused(BadNumbers, {"index": 0}, sheet_for, SQUARE, [GOOD, GOOD], (thing, None), None, None)
            self.refused(BadNumbers, {"index": 1}, sheet_for, SQUARE, [GOOD, GOOD], [99, thing], None, None)
        for corners, what in ((None, "length"), ((0, 0, 1), "length"), ((0, 0, 2, 1), "corner"),
                              ((0, 0, True, 1), "corner")):
            self.refused(BadRing, {"what": what}, sheet_for, SQUARE, [GOOD], (99,), corners, None)
        self.refused(BadRing, {"what": "pair"}, sheet_for, full_picture(2, 2).without_pair((1, 1)), (), (), RING, 2)
        for thing in NO_WHOLES + (2, -1):
            self.refused(BadSign, {}, sheet_for, SQUARE, [GOOD], (99,), RING, thing)

    def test_nothing_passed_in_is_changed(self):
        premises, numbers, corners = [[[0, 0, 1, 1], 1]], [-1], [0, 1, 1, 0]
        sheet = sheet_for(SQUARE, premises, numbers, corners, 1)
        numbers_from(sheet, 1, premises)
        self.assertEqual((premises, numbers, corners), ([[[0, 0, 1, 1], 1]], [-1], [0, 1, 1, 0]))
        premises[0][0][0] = 5
        self.exactly(sheet.polygons, (BACK, RING))

    @in_good_time
    def test_the_greatest_sheet(self):
        chances = a_random(342)
        ring = tuple(chances.randrange(5) for _ in range(60))
        sheet = sheet_for(ALL, [(ring, 1), (backwards(ring), 0)], (30, 29), ring, 0)
        self.assertEqual((len(sheet), len(sheet.couples)), (60, 1800))
        premises = [(tuple(chances.randrange(5) for _ in range(60)), k % 2) for k in range(14)]
        premises += [(read_from(ring, 9), 1), (read_from(ring, 4), 0)]
        self.exactly(numbers_from(sheet, 59, premises), (0,) * 14 + (30, -29))


class TestNumbersFrom(Case):
    def test_small(self):
        sheet = sheet_for(SQUARE, [(RING, 1), (BACK, 0)], (2, 1), RING, 0)
        self.exactly(numbers_from(sheet, 3, [(RING, 1), (BACK, 0)]), (2, 1))
        self.exactly(numbers_from(sheet, 3, [[[1, 0, 0, 1], 1], [[1, 1, 0, 0], 0]]), (-2, -1))
        self.exactly(numbers_from(sheet, 3, [(RING, 0), (RING, 1), (BACK, 0), (BACK, 1)]), (0, 2, 1, 0))
        self.exactly(numbers_from(Sheet(SQUARE, [SHORT], [1], glue_in_order(SQUARE, [SHORT], [1]).couples),
                                  0, ()), ())

    def test_which_premise_counts(self):
        sheet = sheet_for(SQUARE, [(RING, 0)], (1,), RING, 0)
        # The first one that is alike, and a turned one only if none is alike.
        self.exactly(numbers_from(sheet, 1, [(BACK, 0), (RING, 0)]), (0, 1))
        self.exactly(numbers_from(sheet, 1, [(read_from(RING, 1), 0), (RING, 0)]), (1, 0))
        self.exactly(numbers_from(sheet, 1, [(BACK, 0), (read_from(BACK, 1), 0)]), (-1, 0))
        self.exactly(numbers_from(sheet, 1, [(RING, 1), (BACK, 0)]), (0, -1))
        self.exactly(numbers_from(sheet, 0, [(RING, 0), (BACK, 0)]), (0, 1))
        flat = sheet_for(SQUARE, [(SHORT, 1)], (2,), SHORT, 0)
        self.exactly(numbers_from(flat, 2, [(SHORT, 1)]), (2,))

    def test_sums(self):
        chances = a_random(343)
        seen = 0
        for sheet in some_sheets(343):
            for place in range(len(sheet)):
                premises = []
                for polygon, (ring, sign) in enumerate(zip(sheet.polygons, sheet.signs)):
                    if polygon != place:
                        ring = ring if chances.random() < 0.5 else backwards(ring)
                        premises.append((read_from(ring, chances.randrange(len(ring) // 2)), sign))
                chances.shuffle(premises)
                numbers = numbers_from(sheet, place, premises)
                self.is_tuples(numbers)
                self.assertEqual(len(numbers), len(premises))
                turned = backwards(sheet.polygons[place])
                self.assertEqual(added_up(sheet.picture, premises, numbers),
                                 (ring_tour(sheet.picture, turned), last_sign(sheet, place)))
                seen += 1
        self.assertGreater(seen, 100)

    def test_not_premise(self):
        polygons = (RING, BACK, SHORT, SHORT)
        sheet = Sheet(SQUARE, polygons, (0, 1, 0, 1), random_couples(a_random(344), polygons))
        every = [(RING, 0), (RING, 1), (SHORT, 0), (SHORT, 1)]
        self.exactly(numbers_from(sheet, 3, every), (1, -1, 1, 0))
        for left, polygon in ((0, 0), (1, 1), (2, 2)):
            told = every[:left] + every[left + 1:]
            self.refused(NotPremise, {"polygon": polygon}, numbers_from, sheet, 3, told)
        self.refused(NotPremise, {"polygon": 0}, numbers_from, sheet, 3, ())
        self.refused(NotPremise, {"polygon": 1}, numbers_from, sheet, 0, ())
        self.refused(NotPremise, {"polygon": 3}, numbers_from, sheet, 0, every[:3])

    def test_errors_in_their_order(self):
        sheet = sheet_for(SQUARE, [(RING, 0)], (1,), RING, 0)
        for thing in NO_WHOLES + (-1, 2, 10 ** 30):
            self.refused(BadPlace, {}, numbers_from, sheet, thing, None)
        self.refused(BadPlace, {}, numbers_from, Sheet(SQUARE, (), (), ()), 0, ())
        self.exactly(numbers_from(sheet, 1, [(RING, 0)] * 16), (1,) + (0,) * 15)
        for thing in NO_SEQUENCES + ([GOOD] * 17, [None] * 17):
            self.refused(BadPremise, {"index": -1}, numbers_from, sheet, 1, thing)
        for thing in NO_PREMISES:
            self.refused(BadPremise, {"index": 0}, numbers_from, sheet, 1, [thing, None])
            self.refused(BadPremise, {"index": 1}, numbers_from, sheet, 1, (GOOD, thing))
        # A ring of another picture is no premise.
        self.refused(BadPremise, {"index": 0}, numbers_from, glue_in_order(LINE, [SHORT], [0]), 0, [(RING, 0)])


if __name__ == "__main__":
    unittest.main()
