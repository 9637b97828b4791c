"""Pieces, fans and handles of sheets [7.8]."""

import unittest

from sheetproofs.errors import BadPiece
from sheetproofs.fans import fan_counts, handles_of, odd_pieces, piece_sheet, sheet_fans, sheet_pieces
from sheetproofs.sheets import Sheet, beside_sheet, turned_sheet
from tests.glued import (ALL, EXAMPLE, LINE, NINE, SQUARE, fans_of, greatest_polygons, pieces_of,
                         random_couples, some_sheets)
from tests.helpers import NO_WHOLES, Case, a_random, in_good_time
from tests.test_sheets import COUPLES, SHEET, TWO

EMPTY = Sheet(SQUARE, (), (), ())
# One ring that goes forth and back over its one pair, glued to itself in two ways.
FLAT = Sheet(LINE, [(0, 0, 0, 0)], [1], [((0, 0), (0, 1)), ((0, 2), (0, 3))])
SIX = Sheet(LINE, [(0,) * 6], [0], [((0, 0), (0, 3)), ((0, 2), (0, 5)), ((0, 4), (0, 1))])


class TestExample(Case):
    def test_example(self):
        sheet = Sheet(NINE, EXAMPLE, (1, 1, 0), random_couples(a_random(321), EXAMPLE))
        fans = sheet_fans(sheet)
        self.exactly(fans[0], ((0, 0), (2, 2), (1, 4)))
        self.assertEqual(len(fans), 6)
        self.exactly(fan_counts(sheet), ((1, 1, 1), (1, 1, 1)))
        self.exactly(handles_of(sheet), (1,))
        self.exactly(sheet_pieces(sheet), ((0, 1, 2),))
        self.exactly(odd_pieces(sheet), ())
        self.assertTrue(piece_sheet(sheet, 0) == sheet)

    def test_no_polygons(self):
        self.exactly(sheet_pieces(EMPTY), ())
        self.exactly(sheet_fans(EMPTY), ())
        self.exactly(fan_counts(EMPTY), ((0, 0), (0, 0)))
        self.exactly(handles_of(EMPTY), ())
        self.exactly(odd_pieces(EMPTY), ())
        self.refused(BadPiece, {}, piece_sheet, EMPTY, 0)

    def test_a_polygon_glued_to_itself(self):
        self.exactly(sheet_pieces(FLAT), ((0,),))
        self.exactly(sheet_fans(FLAT), (((0, 0), (0, 2)), ((0, 1),), ((0, 3),)))
        self.exactly(fan_counts(FLAT), ((1,), (2,)))
        self.exactly(handles_of(FLAT), (0,))
        self.exactly(odd_pieces(FLAT), (0,))
        self.exactly(sheet_fans(SIX), (((0, 0), (0, 4), (0, 2)), ((0, 1), (0, 5), (0, 3))))
        self.exactly(handles_of(SIX), (1,))

    def test_two_polygons(self):
        self.exactly(sheet_fans(SHEET), (((0, 0), (1, 0)), ((0, 1), (1, 3)), ((0, 2), (1, 2)), ((0, 3), (1, 1))))
        self.exactly(handles_of(SHEET), (0,))
        self.exactly(odd_pieces(SHEET), (0,))


class TestAnySheet(Case):
    def test_pieces(self):
        seen = 0
        for sheet in some_sheets(322):
            self.exactly(sheet_pieces(sheet), pieces_of(sheet))
            seen += len(sheet_pieces(sheet)) > 1
        self.assertGreater(seen, 10)

    def test_fans(self):
        for sheet in some_sheets(323):
            fans = sheet_fans(sheet)
            self.is_tuples(fans)
            self.assertEqual({frozenset(fan) for fan in fans}, fans_of(sheet))
            self.assertEqual(sum(len(fan) for fan in fans), sum(len(ring) for ring in sheet.polygons))
            self.assertEqual([fan[0] for fan in fans], sorted(min(fan) for fan in fans))
            for fan in fans:
                corners = {(number % 2, sheet.polygons[polygon][number]) for polygon, number in fan}
                self.assertEqual(len(corners), 1)
                for at, corner in enumerate(fan):
                    polygon, side = sheet.mate_of(corner)
                    behind = (polygon, (side + 1) % len(sheet.polygons[polygon]))
                    self.assertEqual(fan[(at + 1) % len(fan)], behind)

    def test_counts_and_handles(self):
        seen = []
        for sheet in some_sheets(324):
            points, walls = [0] * sheet.picture.points, [0] * sheet.picture.walls
            for fan in fans_of(sheet):
                polygon, number = min(fan)
                (walls if number % 2 else points)[sheet.polygons[polygon][number]] += 1
            self.exactly(fan_counts(sheet), (tuple(points), tuple(walls)))
            handles = handles_of(sheet)
            self.is_tuples(handles)
            self.assertEqual(len(handles), len(pieces_of(sheet)))
            for piece, many in zip(pieces_of(sheet), handles):
                fans = sum(min(fan)[0] in piece for fan in fans_of(sheet))
                couples = sum(one[0] in piece for one, _ in sheet.couples)
                self.assertEqual(fans - couples + len(piece), 2 - 2 * many)
                self.assertGreaterEqual(many, 0)
                seen.append(many)
            self.assertEqual(handles_of(turned_sheet(sheet)), handles)
        self.assertTrue({0, 1, 2} <= set(seen))

    def test_piece_sheets(self):
        for sheet in some_sheets(325):
            again = Sheet(sheet.picture, (), (), ())
            for number, piece in enumerate(pieces_of(sheet)):
                found = piece_sheet(sheet, number)
                self.assertIsInstance(found, Sheet)
                self.assertEqual(found.polygons, tuple(sheet.polygons[polygon] for polygon in piece))
                self.assertEqual(found.signs, tuple(sheet.signs[polygon] for polygon in piece))
                told = [((piece.index(p), s), (piece.index(q), t)) for (p, s), (q, t) in sheet.couples
                        if p in piece]
                self.assertEqual(found.couples, tuple(sorted(told)))
                self.assertEqual(handles_of(found), (handles_of(sheet)[number],))
                again = beside_sheet(again, found)
            self.assertEqual(sorted(again.polygons), sorted(sheet.polygons))
            self.assertEqual(handles_of(again), handles_of(sheet))

    def test_odd_pieces(self):
        seen = 0
        sheets = some_sheets(326)
        for sheet in sheets + [beside_sheet(sheet, turned_sheet(sheet)) for sheet in sheets]:
            wanted = tuple(number for number, piece in enumerate(pieces_of(sheet))
                           if sum(sheet.signs[polygon] for polygon in piece) % 2)
            self.exactly(odd_pieces(sheet), wanted)
            seen += len(wanted) > 1
        self.assertGreater(seen, 3)

    def test_bad_pieces(self):
        double = beside_sheet(SHEET, Sheet(SQUARE, TWO, (1, 1), COUPLES))
        self.exactly(odd_pieces(double), (0,))
        self.assertTrue(piece_sheet(double, 0) == SHEET)
        self.assertTrue(piece_sheet(double, 1) == Sheet(SQUARE, TWO, (1, 1), COUPLES))
        for thing in NO_WHOLES + (-1, 2, 10 ** 30):
            self.refused(BadPiece, {}, piece_sheet, double, thing)

    @in_good_time
    def test_the_greatest_sheet(self):
        polygons = greatest_polygons(327)
        sheet = Sheet(ALL, polygons, [1] * 60, random_couples(a_random(327), polygons))
        self.assertEqual(sum(len(fan) for fan in sheet_fans(sheet)), 3600)
        self.exactly(sheet_pieces(sheet), (tuple(range(60)),))
        self.assertEqual(len(sheet_fans(sheet)) - 1800 + 60, 2 - 2 * handles_of(sheet)[0])
        self.assertTrue(piece_sheet(sheet, 0) == sheet)

    @in_good_time
    def test_a_fan_of_1800_corners(self):
        # The side behind each point is glued to the next polygon's side in front of its next point.
        ring = (0,) * 60
        couples = [((p, 2 * k), ((p + 1) % 60, (2 * k + 1 + 2 * (p == 59)) % 60))
                   for p in range(60) for k in range(30)]
        sheet = Sheet(LINE, [ring] * 60, [0] * 60, couples)
        fans = sheet_fans(sheet)
        self.assertEqual({frozenset(fan) for fan in fans}, fans_of(sheet))
        self.assertEqual(max(len(fan) for fan in fans), 1800)
        self.assertEqual(len(fans) - 1800 + 60, 2 - 2 * handles_of(sheet)[0])


if __name__ == "__main__":
    unittest.main()
