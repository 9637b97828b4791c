"""Sheets: what makes one, what they tell, and sheets turned and put together [7.1 to 7.5]."""

import unittest

from sheetproofs.errors import BadPlace, BadSheet, BadSide, OtherPicture, TooMany
from sheetproofs.fields import RestField
from sheetproofs.pictures import Picture
from sheetproofs.sheets import (Sheet, beside_sheet, last_sign, rings_alike, sheet_fault, sheet_sayings,
                                sheet_sign, turned_sheet)
from sheetproofs.tables import holds_in
from tests.glued import (ALL, EXAMPLE, HEX, LINE, NINE, SQUARE, backwards, greatest_polygons, random_couples,
                         read_from, sides_of, some_sheets)
from tests.helpers import NO_SEQUENCES, NO_WHOLES, Case, a_random, in_good_time
from tests.test_rings import WRONG as WRONG_RINGS
from tests.test_tables import a_table

RING = (0, 0, 1, 1)
TWO = (RING, (0, 1, 1, 0))
COUPLES = (((0, 0), (1, 3)), ((0, 2), (1, 1)), ((1, 0), (0, 3)), ((1, 2), (0, 1)))
SHEET = Sheet(SQUARE, TWO, (1, 0), COUPLES)
NO_SIDES = NO_SEQUENCES + ((), (0,), (0, 0, 0), (0, 4), (2, 0), (-1, 0), (0, -1), "00", ((0, 0), 0)) + tuple(
    (0, thing) for thing in NO_WHOLES) + tuple([thing, 0] for thing in NO_WHOLES)


class TestSheetFault(Case):
    def fault(self, *args):
        """Return the fault on the square, and check that the constructor raises it."""
        found = sheet_fault(SQUARE, *args)
        if found is None:
            self.assertIsInstance(Sheet(SQUARE, *args), Sheet)
        else:
            self.assertIs(found.__class__, tuple)
            self.refused(BadSheet, {"what": found[0], "place": found[1]}, Sheet, SQUARE, *args)
        return found

    def test_sheets(self):
        self.assertIsNone(self.fault(TWO, (0, 1), COUPLES))
        self.assertIsNone(self.fault([list(ring) for ring in TWO], [0, 1],
                                     [[list(one), list(other)] for one, other in COUPLES[::-1]]))
        self.assertIsNone(self.fault((), (), ()))
        self.assertIsNone(self.fault([], [], []))

    def test_polygons(self):
        for thing in NO_SEQUENCES + ((RING,) * 61, [None] * 61):
            self.assertEqual(self.fault(thing, None, None), ("polygon", -1))
        for ring, _ in WRONG_RINGS:
            self.assertEqual(sheet_fault(HEX, [ring], None, None), ("polygon", 0))
            self.assertEqual(sheet_fault(HEX, [(0, 0, 0, 0), ring, None], None, None), ("polygon", 1))
        self.assertEqual(self.fault([RING] * 59 + [(0, 0, 1, 2)], None, None), ("polygon", 59))

    def test_signs(self):
        for thing in NO_SEQUENCES + ((), (0,), (0, 0, 0), (None,)):
            self.assertEqual(self.fault(TWO, thing, None), ("sign", -1))
        for thing in NO_WHOLES + (2, -1, 10 ** 30):
            self.assertEqual(self.fault(TWO, (thing, None), None), ("sign", 0))
            self.assertEqual(self.fault(TWO, [1, thing], None), ("sign", 1))
        self.assertEqual(self.fault((), (0,), ()), ("sign", -1))

    def test_couples(self):
        for thing in NO_SEQUENCES:
            self.assertEqual(self.fault(TWO, (0, 0), thing), ("couple", -1))
        for thing in NO_SIDES:
            for couple in ((thing, (1, 3)), [(0, 0), thing], thing):
                self.assertEqual(self.fault(TWO, (0, 0), [couple, None]), ("couple", 0))
                self.assertEqual(self.fault(TWO, (0, 0), COUPLES[:2] + (couple,)), ("couple", 2))
        # The first side must go forth, the second one back, on the same open pair.
        for couple in (((0, 0), (1, 0)), ((0, 1), (1, 2)), ((0, 0), (1, 1)), ((0, 0), (0, 0)), ((0, 0), (0, 1)),
                       ((1, 3), (0, 0)), ((0, 1), (1, 3)), ((0, 1), (0, 1)), ((0, 0), (1, 3), (0, 0))):
            self.assertEqual(self.fault(TWO, (0, 0), COUPLES[1:] + (couple,)), ("couple", 3))
        self.assertEqual(self.fault((), (), [((0, 0), (0, 1))]), ("couple", 0))
        self.assertEqual(self.fault(TWO, (0, 0), COUPLES + COUPLES[:1] + (None,)), ("couple", 5))

    def test_sides_twice(self):
        self.assertEqual(self.fault(TWO, (0, 0), COUPLES + COUPLES[:1]), ("twice", 4))
        self.assertEqual(self.fault(TWO, (0, 0), COUPLES[:1] * 2), ("twice", 1))
        polygons = TWO + TWO
        twice = ((0, 0), (3, 3))
        self.assertEqual(self.fault(polygons, (0,) * 4, COUPLES + (twice,)), ("twice", 4))
        twice = ((2, 0), (1, 3))
        self.assertEqual(self.fault(polygons, (0,) * 4, (twice,) + COUPLES), ("twice", 1))

    def test_free_sides(self):
        for at in range(4):
            left = COUPLES[:at] + COUPLES[at + 1:]
            self.assertEqual(self.fault(TWO, (0, 0), left), ("free", 0))
        self.assertEqual(self.fault(TWO, (0, 0), ()), ("free", 0))
        self.assertEqual(self.fault(TWO + ((0, 0, 0, 0),), (0, 0, 0), COUPLES), ("free", 2))
        self.assertEqual(self.fault((RING,), (0,), ()), ("free", 0))

    def test_sixty_polygons_and_one_more(self):
        ring, couples = (0, 0, 0, 0), []
        for polygon in range(60):
            couples += [((polygon, 0), (polygon, 1)), ((polygon, 2), (polygon, 3))]
        self.assertIsNone(sheet_fault(LINE, [ring] * 60, [1] * 60, couples))
        self.assertEqual(len(Sheet(LINE, [ring] * 60, [1] * 60, couples)), 60)
        self.assertEqual(sheet_fault(LINE, [ring] * 61, [1] * 61, couples), ("polygon", -1))

    @in_good_time
    def test_the_greatest_sheet(self):
        chances = a_random(311)
        polygons = greatest_polygons(311)
        couples = random_couples(chances, polygons)
        self.assertEqual(len(couples), 1800)
        sheet = Sheet(ALL, polygons, [0] * 60, couples)
        for one, other in couples[:50]:
            self.assertEqual((sheet.mate_of(one), sheet.mate_of(other)), (other, one))
        self.assertTrue(turned_sheet(turned_sheet(sheet)) == sheet)
        self.assertEqual(sheet_fault(ALL, polygons, [0] * 60, couples + couples[:1]), ("twice", 1800))
        self.assertEqual(sheet_fault(ALL, polygons, [0] * 60, couples[1:])[0], "free")


class TestSheet(Case):
    def test_attributes(self):
        sheet = Sheet(SQUARE, [list(ring) for ring in TWO], [1, 0],
                      [[list(one), list(other)] for one, other in COUPLES[::-1]])
        self.assertTrue(sheet.picture == SQUARE)
        self.exactly(sheet.polygons, TWO)
        self.exactly(sheet.signs, (1, 0))
        self.exactly(sheet.couples, COUPLES)
        self.assertEqual(len(sheet), 2)
        self.assertEqual(len(Sheet(SQUARE, (), (), ())), 0)

    def test_equality(self):
        self.assertTrue(SHEET == Sheet(SQUARE, TWO, [1, 0], COUPLES[::-1]))
        four = Sheet(SQUARE, TWO * 2, (0,) * 4, COUPLES + tuple(
            ((p + 2, s), (q + 2, t)) for (p, s), (q, t) in COUPLES))
        crossed = tuple(((p, s), (q ^ 2, t)) for (p, s), (q, t) in COUPLES)
        crossed += tuple(((p + 2, s), ((q + 2) ^ 2, t)) for (p, s), (q, t) in COUPLES)
        for other in (Sheet(SQUARE, TWO, (0, 0), COUPLES), Sheet(SQUARE, (), (), ()), TWO, None, SQUARE,
                      Sheet(SQUARE, TWO[::-1], (1, 0), [((1 - p, s), (1 - q, t)) for (p, s), (q, t) in COUPLES]),
                      Sheet(Picture(2, 3, SQUARE.pairs), TWO, (1, 0), COUPLES)):
            self.assertFalse(SHEET == other)
            self.assertTrue(SHEET != other)
        self.assertFalse(four == Sheet(SQUARE, TWO * 2, (0,) * 4, crossed))

    def test_later_changes_have_no_effect(self):
        polygons, signs = [list(ring) for ring in TWO], [1, 0]
        couples = [[list(one), list(other)] for one, other in COUPLES]
        sheet = Sheet(SQUARE, polygons, signs, couples)
        polygons[0][0], signs[0], couples[0][0][1] = 1, 0, 2
        self.assertTrue(sheet == SHEET)
        self.assertEqual(sheet.mate_of([0, 0]), (1, 3))

    def test_mates_and_pairs(self):
        self.exactly(SHEET.mate_of([0, 0]), (1, 3))
        self.exactly(SHEET.mate_of((0, 3)), (1, 0))
        self.exactly(SHEET.side_pair([0, 0]), (0, 0))
        self.exactly(SHEET.side_pair((0, 1)), (1, 0))
        self.exactly(SHEET.side_pair((1, 3)), (0, 0))
        for sheet in some_sheets(312):
            sides = sides_of(sheet.polygons)
            for side, (pair, forth) in sides.items():
                mate = sheet.mate_of(side)
                self.is_tuples(mate)
                self.exactly(sheet.side_pair(list(side)), pair)
                self.assertEqual(sides[mate], (pair, not forth))
                self.assertEqual(sheet.mate_of(mate), side)
                self.assertIn((side, mate) if forth else (mate, side), sheet.couples)

    def test_no_sides(self):
        for thing in NO_SIDES:
            self.refused(BadSide, {}, SHEET.mate_of, thing)
            self.refused(BadSide, {}, SHEET.side_pair, thing)
        self.refused(BadSide, {}, Sheet(SQUARE, (), (), ()).mate_of, (0, 0))


class TestWhatItTells(Case):
    def test_small(self):
        self.exactly(sheet_sayings(SHEET), (((1, -1, -1, 1), 1), ((-1, 1, 1, -1), 0)))
        self.exactly(sheet_sign(SHEET), 1)
        self.exactly(last_sign(SHEET, 0), 0)
        self.exactly(last_sign(SHEET, 1), 1)
        empty = Sheet(SQUARE, (), (), ())
        self.exactly(sheet_sayings(empty), ())
        self.exactly(sheet_sign(empty), 0)
        self.refused(BadPlace, {}, last_sign, empty, 0)

    def test_any_sheet(self):
        for sheet in some_sheets(313):
            sayings = sheet_sayings(sheet)
            self.is_tuples(sayings)
            tours = [[0] * len(sheet.picture) for _ in sheet.polygons]
            for (polygon, _), (pair, forth) in sides_of(sheet.polygons).items():
                tours[polygon][sheet.picture.pairs.index(pair)] += 1 if forth else -1
            self.assertEqual(sayings, tuple((tuple(tour), sign) for tour, sign in zip(tours, sheet.signs)))
            self.assertFalse(any(sum(column) for column in zip(*tours)))
            self.exactly(sheet_sign(sheet), sum(sheet.signs) % 2)
            for place in range(len(sheet)):
                others = sheet.signs[:place] + sheet.signs[place + 1:]
                self.exactly(last_sign(sheet, place), sum(others) % 2)

    def test_the_last_one_holds(self):
        chances = a_random(314)
        seen = 0
        for sheet in some_sheets(314):
            sayings = sheet_sayings(sheet)
            for prime in (3, 5, 7):
                field = RestField(prime)
                table = a_table(field, chances, len(sheet.picture))
                held = [holds_in(field, sheet.picture, table, saying) for saying in sayings]
                if sheet_sign(sheet) == 1:
                    self.assertFalse(all(held))
                for place in range(len(sayings)):
                    if all(held[:place] + held[place + 1:]):
                        seen += 1
                        told = (sayings[place][0], last_sign(sheet, place))
                        self.assertTrue(holds_in(field, sheet.picture, table, told))
        self.assertGreater(seen, 20)

    def test_bad_places(self):
        for thing in NO_WHOLES + (-1, 2, 10 ** 30):
            self.refused(BadPlace, {}, last_sign, SHEET, thing)


class TestTurnedAndBeside(Case):
    def test_rings_alike(self):
        self.assertIs(rings_alike(RING, list(RING)), True)
        self.assertIs(rings_alike(RING, [1, 1, 0, 0]), True)
        self.assertIs(rings_alike(RING, (0, 1, 1, 0)), False)
        self.assertIs(rings_alike(RING, RING + RING), False)
        self.assertIs(rings_alike(RING + RING, RING), False)
        self.assertIs(rings_alike((0, 1, 0, 1), (1, 0, 1, 0)), False)
        ring = (0, 1, 2, 0, 1, 1, 2, 2)
        for point in range(4):
            self.assertIs(rings_alike(list(ring), read_from(ring, point)), True)
            self.assertIs(rings_alike(read_from(ring, point), ring), True)
            self.assertIs(rings_alike(ring, read_from(backwards(ring), point)), False)
            # Read from a wall it would be another thing.
            self.assertIs(rings_alike(ring, ring[2 * point + 1:] + ring[:2 * point + 1]), False)
        self.assertIs(rings_alike((7, 8, 9, 10), (9, 10, 7, 8)), True)
        self.assertIs(rings_alike(backwards((0, 0, 1, 0)), (1, 0, 0, 0)), True)

    def test_turned_example(self):
        found = turned_sheet(SHEET)
        self.exactly(found.polygons, ((0, 1, 1, 0), (0, 0, 1, 1)))
        self.exactly(found.signs, (1, 0))
        self.exactly(found.couples, tuple(sorted(((q, 3 - t), (p, 3 - s)) for (p, s), (q, t) in COUPLES)))

    def test_turned(self):
        for sheet in some_sheets(315):
            found = turned_sheet(sheet)
            self.assertIsInstance(found, Sheet)
            self.assertEqual(found.polygons, tuple(backwards(ring) for ring in sheet.polygons))
            self.assertEqual((found.signs, found.picture), (sheet.signs, sheet.picture))
            for (p, s), (q, t) in sheet.couples:
                forth = (q, len(sheet.polygons[q]) - 1 - t)
                self.assertEqual(found.mate_of(forth), (p, len(sheet.polygons[p]) - 1 - s))
            self.assertTrue(turned_sheet(found) == sheet)

    def test_beside(self):
        found = beside_sheet(SHEET, SHEET)
        self.exactly(found.polygons, TWO + TWO)
        self.exactly(found.signs, (1, 0, 1, 0))
        self.exactly(found.couples, COUPLES + tuple(((p + 2, s), (q + 2, t)) for (p, s), (q, t) in COUPLES))
        empty = Sheet(SQUARE, (), (), ())
        self.assertTrue(beside_sheet(empty, SHEET) == SHEET)
        self.assertTrue(beside_sheet(SHEET, empty) == SHEET)
        self.assertTrue(beside_sheet(empty, empty) == empty)

    def test_beside_errors(self):
        def flat(many):
            couples = [((p, s), (p, s + 1)) for p in range(many) for s in (0, 2)]
            return Sheet(LINE, [(0, 0, 0, 0)] * many, [0] * many, couples)
        self.assertEqual(len(beside_sheet(flat(30), flat(30))), 60)
        self.assertEqual(len(beside_sheet(flat(60), flat(0))), 60)
        for one, other in ((30, 31), (60, 1), (1, 60), (60, 60)):
            self.refused(TooMany, {"most": 60}, beside_sheet, flat(one), flat(other))
        self.refused(OtherPicture, {}, beside_sheet, SHEET, flat(1))
        self.refused(OtherPicture, {}, beside_sheet, SHEET, Sheet(Picture(2, 3, SQUARE.pairs), (), (), ()))
        other = Sheet(Picture(1, 2, [(0, 0)]), flat(60).polygons, flat(60).signs, flat(60).couples)
        self.refused(OtherPicture, {}, beside_sheet, flat(60), other)

    def test_example(self):
        sheet = Sheet(NINE, EXAMPLE, (1, 1, 0), random_couples(a_random(316), EXAMPLE))
        self.exactly(sheet.couples[0], ((0, 0), (2, 1)))
        self.exactly(sheet_sign(sheet), 0)


if __name__ == "__main__":
    unittest.main()
