"""Polygons glued in order, in all ways, swapped, and with the fewest handles [7.6, 7.7, 7.9]."""

import unittest
from inspect import isgeneratorfunction
from itertools import permutations, product
from math import factorial

from sheetproofs.errors import BadCouple, BadSheet, NotAlike, NotSum, TooMany
from sheetproofs.fans import fan_counts, handles_of, sheet_fans
from sheetproofs.gluing import all_gluings, count_gluings, fewest_handles, glue_in_order, swapped_sheet
from sheetproofs.pictures import Picture
from sheetproofs.sheets import Sheet
from tests.glued import (ALL, EXAMPLE, HEX, LINE, NINE, SQUARE, backwards, by_pairs, fitting_polygons,
                         greatest_polygons, some_sheets)
from tests.helpers import NO_SEQUENCES, NO_WHOLES, Case, a_random, in_good_time
from tests.test_rings import WRONG as WRONG_RINGS
from tests.test_sheets import COUPLES, SHEET, TWO

RING = (0, 0, 1, 1)
BACK = (0, 1, 1, 0)
SHORT = (0, 0, 0, 0)


def first_of(picture, polygons, signs):
    """Return the first sheet that all_gluings yields."""
    return next(iter(all_gluings(picture, polygons, signs)))


def polygon_lists(seed, many=25):
    """Return couples (picture, polygons) with few gluings."""
    chances = a_random(seed)
    found = [(SQUARE, ()), (NINE, EXAMPLE), (LINE, (SHORT, SHORT)), (LINE, ((0,) * 12,)), (LINE, ((0,) * 6, SHORT))]
    while len(found) < many:
        picture = chances.choice((LINE, SQUARE, HEX, NINE, ALL))
        polygons = fitting_polygons(chances, picture, 2)
        if all(len(forth) == len(back) for forth, back in by_pairs(polygons).values()):
            if gluings(polygons) <= 720:
                found.append((picture, tuple(polygons)))
    return found


def gluings(polygons):
    """Return the product of the factorials."""
    many = 1
    for forth, _ in by_pairs(polygons).values():
        many *= factorial(len(forth))
    return many


class TestInOrder(Case):
    def test_small(self):
        self.assertTrue(glue_in_order(SQUARE, [list(ring) for ring in TWO], [1, 0]) == SHEET)
        self.exactly(glue_in_order(LINE, [SHORT], (0,)).couples, (((0, 0), (0, 1)), ((0, 2), (0, 3))))
        self.assertEqual(len(glue_in_order(SQUARE, (), ())), 0)
        self.assertEqual(len(glue_in_order(Picture(1, 1, ()), [], [])), 0)
        self.exactly(glue_in_order(NINE, EXAMPLE, (1, 1, 0)).couples[0], ((0, 0), (2, 1)))

    def test_the_kth_to_the_kth(self):
        for picture, polygons in polygon_lists(331):
            signs = [len(ring) % 4 // 2 for ring in polygons]
            found = glue_in_order(picture, polygons, signs)
            self.assertIsInstance(found, Sheet)
            wanted = []
            for forth, back in by_pairs(polygons).values():
                wanted += list(zip(forth, back))
            self.exactly(found.couples, tuple(sorted(wanted)))
            self.assertEqual((found.picture, found.polygons, found.signs), (picture, polygons, tuple(signs)))

    def test_not_sum(self):
        for polygons in ((RING,), (RING, RING), [RING, BACK, (1, 0, 0, 1)], (RING, BACK, BACK, SHORT)):
            for function in (glue_in_order, first_of, fewest_handles):
                self.refused(NotSum, {"index": 0}, function, SQUARE, polygons, (0,) * len(polygons))
            self.exactly(count_gluings(SQUARE, polygons), 0)
        self.refused(NotSum, {"index": 4}, glue_in_order, NINE, [(1, 1, 2, 2)], [0])
        self.refused(NotSum, {"index": 1}, glue_in_order, NINE, [RING, (1, 0, 0, 2)], [0, 1])
        # Over 720 gluings would be too many, but there is none.
        self.refused(NotSum, {"index": 0}, first_of, SQUARE, [RING, SHORT * 3, SHORT * 3], (0, 0, 0))


class TestErrors(Case):
    def test_polygons(self):
        for thing in NO_SEQUENCES + ([RING] * 61, [None] * 61):
            told = {"what": "polygon", "place": -1}
            for function in (glue_in_order, first_of, fewest_handles):
                self.refused(BadSheet, told, function, SQUARE, thing, None)
            self.refused(BadSheet, told, count_gluings, SQUARE, thing)
        for ring, _ in WRONG_RINGS:
            told = {"what": "polygon", "place": 1}
            for function in (glue_in_order, first_of, fewest_handles):
                self.refused(BadSheet, told, function, HEX, [SHORT, ring, None], None)
            self.refused(BadSheet, told, count_gluings, HEX, (SHORT, ring, None))

    def test_signs(self):
        for function in (glue_in_order, first_of, fewest_handles):
            for thing in NO_SEQUENCES + ((), (0, 0, 0), (None,)):
                self.refused(BadSheet, {"what": "sign", "place": -1}, function, SQUARE, (RING, RING), thing)
            for thing in NO_WHOLES + (2, -1):
                self.refused(BadSheet, {"what": "sign", "place": 0}, function, SQUARE, (RING, RING), (thing, None))
                self.refused(BadSheet, {"what": "sign", "place": 1}, function, SQUARE, (RING, RING), [0, thing])

    def test_nothing_passed_in_is_changed(self):
        polygons, signs = [list(ring) for ring in TWO], [1, 0]
        glue_in_order(SQUARE, polygons, signs)
        count_gluings(SQUARE, polygons)
        list(all_gluings(SQUARE, polygons, signs))
        fewest_handles(SQUARE, polygons, signs)
        swapped = glue_in_order(LINE, [[0, 0, 0, 0]], [0])
        swapped_sheet(swapped, 0, 1)
        self.assertEqual(swapped.couples, (((0, 0), (0, 1)), ((0, 2), (0, 3))))
        self.assertEqual((polygons, signs), ([[0, 0, 1, 1], [0, 1, 1, 0]], [1, 0]))


class TestAllGluings(Case):
    def test_counts(self):
        self.exactly(count_gluings(NINE, EXAMPLE), 1)
        self.exactly(count_gluings(SQUARE, ()), 1)
        self.exactly(count_gluings(SQUARE, [RING]), 0)
        self.exactly(count_gluings(SQUARE, [RING, list(BACK)] * 3), 6 ** 4)
        self.exactly(count_gluings(LINE, [(0,) * 60] * 60), factorial(1800))
        for picture, polygons in polygon_lists(332):
            self.exactly(count_gluings(picture, polygons), gluings(polygons))

    def test_it_is_a_generator(self):
        self.assertTrue(isgeneratorfunction(all_gluings))
        sheets = all_gluings(SQUARE, TWO, (1, 0))
        self.assertTrue(next(sheets) == SHEET)
        self.assertRaises(StopIteration, next, sheets)
        self.assertEqual([len(sheet) for sheet in all_gluings(SQUARE, (), ())], [0])

    def test_all_in_ascending_order(self):
        most = 0
        for picture, polygons in polygon_lists(333):
            signs = [0] * len(polygons)
            ways = []
            for forth, back in by_pairs(polygons).values():
                ways.append([list(zip(forth, chosen)) for chosen in permutations(back)])
            wanted = sorted(tuple(sorted(sum(way, []))) for way in product(*ways))
            found = list(all_gluings(picture, polygons, signs))
            self.assertEqual([sheet.couples for sheet in found], wanted)
            for sheet in found:
                self.assertIsInstance(sheet, Sheet)
                self.assertEqual((sheet.picture, sheet.polygons, sheet.signs), (picture, polygons, (0,) * len(polygons)))
            most = max(most, len(wanted))
        self.assertEqual(most, 720)

    def test_order_not_pair_by_pair(self):
        # Two pairs with two sides forth each, whose sides stand by turns in the order of the couples.
        polygons = ((0, 0, 0, 1), (0, 0, 0, 1), (0, 1, 0, 0), (0, 1, 0, 0))
        found = [sheet.couples for sheet in all_gluings(SQUARE, polygons, (0,) * 4)]
        self.assertEqual(found, sorted(found))
        self.assertEqual(len(set(found)), gluings(polygons))

    def test_720_and_more(self):
        self.assertEqual(len(list(all_gluings(LINE, [(0,) * 12], [0]))), 720)
        for polygons in ([(0,) * 14], [(0,) * 12, SHORT], [(0,) * 60] * 60):
            signs = [0] * len(polygons)
            self.refused(TooMany, {"most": 720}, first_of, LINE, polygons, signs)
            self.refused(TooMany, {"most": 720}, fewest_handles, LINE, polygons, signs)
        self.refused(TooMany, {"most": 720}, first_of, SQUARE, [RING, BACK] * 3, (0,) * 6)
        self.assertEqual(len(list(all_gluings(SQUARE, [RING, BACK] * 2, (1,) * 4))), 16)

    def test_fewest_handles(self):
        seen = []
        for picture, polygons in polygon_lists(334, 35):
            signs = [1] * len(polygons)
            best = None
            for sheet in all_gluings(picture, polygons, signs):
                if best is None or sum(handles_of(sheet)) < sum(handles_of(best)):
                    best = sheet
            found = fewest_handles(picture, polygons, signs)
            self.assertTrue(found == best)
            seen.append(found == first_of(picture, polygons, signs))
        self.assertIn(False, seen)
        self.assertEqual(sum(handles_of(fewest_handles(LINE, [(0,) * 12], [0]))), 0)


class TestSwapped(Case):
    def test_small(self):
        sheet = glue_in_order(LINE, [SHORT], (1,))
        found = swapped_sheet(sheet, 0, 1)
        self.exactly(found.couples, (((0, 0), (0, 3)), ((0, 2), (0, 1))))
        self.exactly(found.signs, (1,))
        self.assertTrue(swapped_sheet(found, 1, 0) == sheet)

    def test_fans_change_by_one(self):
        chances = a_random(335)
        seen = 0
        for sheet in some_sheets(335):
            for _ in range(4):
                if len(sheet.couples) < 2:
                    continue
                one, other = chances.sample(range(len(sheet.couples)), 2)
                pair = sheet.side_pair(sheet.couples[one][0])
                if pair != sheet.side_pair(sheet.couples[other][0]):
                    self.refused(NotAlike, {}, swapped_sheet, sheet, one, other)
                    continue
                seen += 1
                found = swapped_sheet(sheet, one, other)
                couples = list(sheet.couples)
                (a, b), (c, d) = couples[one], couples[other]
                couples[one], couples[other] = (a, d), (c, b)
                self.exactly(found.couples, tuple(sorted(couples)))
                self.assertEqual((found.polygons, found.signs), (sheet.polygons, sheet.signs))
                for before, after, corner in zip(fan_counts(sheet), fan_counts(found), pair):
                    steps = [abs(a - b) for a, b in zip(before, after)]
                    self.assertEqual(steps, [1 if at == corner else 0 for at in range(len(steps))])
                self.assertEqual(len(sheet_fans(sheet)) % 2, len(sheet_fans(found)) % 2)
                self.assertTrue(swapped_sheet(found, found.couples.index((a, d)), found.couples.index((c, b)))
                                == sheet)
        self.assertGreater(seen, 20)

    def test_errors(self):
        sheet = glue_in_order(SQUARE, TWO * 2, (0,) * 4)
        for thing in NO_WHOLES + (-1, 8, 10 ** 30):
            self.refused(BadCouple, {}, swapped_sheet, sheet, thing, 0)
            self.refused(BadCouple, {}, swapped_sheet, sheet, thing, None)
            self.refused(BadCouple, {}, swapped_sheet, sheet, 0, thing)
        for number in range(8):
            self.refused(NotAlike, {}, swapped_sheet, sheet, number, number)
        self.refused(NotAlike, {}, swapped_sheet, sheet, 0, 1)
        self.refused(BadCouple, {}, swapped_sheet, Sheet(SQUARE, (), (), ()), 0, 0)

    @in_good_time
    def test_the_greatest_sheet(self):
        polygons = greatest_polygons(336)
        sheet = glue_in_order(ALL, polygons, [0] * 60)
        self.assertEqual(len(sheet.couples), 1800)
        self.assertGreater(count_gluings(ALL, polygons), 10 ** 1000)
        self.refused(TooMany, {"most": 720}, first_of, ALL, polygons, [0] * 60)
        place = sheet.couples[0][0]
        alike = [at for at, (one, _) in enumerate(sheet.couples) if sheet.side_pair(one) == sheet.side_pair(place)]
        found = swapped_sheet(sheet, alike[0], alike[-1])
        self.assertEqual(found.couples[0], (place, sheet.couples[alike[-1]][1]))
        self.assertEqual(backwards(backwards(polygons[0])), polygons[0])
        self.assertEqual(COUPLES, SHEET.couples)


if __name__ == "__main__":
    unittest.main()
