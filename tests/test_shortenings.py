"""Polygons struck from sheets, and sheets pasted together [7.12 to 7.14]."""

import unittest

from sheetproofs.errors import BadPlace, NotUndone, OtherPicture, TooMany
from sheetproofs.fans import handles_of, sheet_pieces
from sheetproofs.gluing import glue_in_order
from sheetproofs.rings import ring_tour
from sheetproofs.sheetmakers import numbers_from, sheet_for
from sheetproofs.sheets import Sheet, beside_sheet, last_sign, rings_alike, sheet_sign, turned_sheet
from sheetproofs.shortenings import Shorter, pasted_sheet, shortened_sheet, struck_sheet, undone_sides
from tests.glued import (ALL, HEX, LINE, NINE, SQUARE, backwards, fitting_polygons, greatest_polygons,
                         random_couples, read_from, sides_of, some_sheets)
from tests.helpers import NO_WHOLES, Case, a_random, in_good_time
from tests.test_sheetmakers import added_up

RING, BACK, SHORT = (0, 0, 1, 1), (0, 1, 1, 0), (0, 0, 0, 0)
SIX = (0, 0, 1, 1, 2, 2)
EMPTY = Sheet(SQUARE, (), (), ())


def counterparts(sheet, one, other):
    """Return the counterpart of each side of polygon one, by the words of point 7.12, or None."""
    first, second = sheet.polygons[one], sheet.polygons[other]
    many = len(first)
    if one == other or sheet.signs[one] != sheet.signs[other] or len(second) != many:
        return None
    turned = backwards(first)
    for v in range(0, many, 2):
        if all(second[c] == turned[(c + v) % many] for c in range(many)):
            return {(many - 1 - (c + v)) % many: c for c in range(many)}
    return None


def undone_couples(sheet):
    """Return all couples of polygons of which one undoes the other."""
    many = range(len(sheet))
    return [(a, b) for a in many for b in many if counterparts(sheet, a, b) is not None]


def struck_mates(sheet, one, other):
    """Return the mates of all sides that stay: the couples of the sheet with ways through pinched."""
    mates = {}
    for forth, back in sheet.couples:
        mates[forth], mates[back] = back, forth
    facing = counterparts(sheet, one, other)
    for side, partner in facing.items():
        # Each counterpart in its turn is taken out, and what was glued to the two is glued together.
        before, behind = mates.pop((one, side)), mates.pop((other, partner))
        if before != (other, partner):
            mates[before], mates[behind] = behind, before
    return mates


def kinds_of(sheet, place):
    """Return for each ring saying, turned ones taken for it, the polygons read one way and the other."""
    kinds = []
    for at, ring in enumerate(sheet.polygons):
        if at == place:
            continue
        for kind in kinds:
            if kind[1] == sheet.signs[at] and rings_alike(kind[0], ring):
                kind[2] += 1
                break
            if kind[1] == sheet.signs[at] and rings_alike(kind[0], backwards(ring)):
                kind[3] += 1
                break
        else:
            kinds.append([ring, sheet.signs[at], 1, 0])
    return kinds


def more_sheets(seed):
    """Return sheets in which many polygons undo each other."""
    chances = a_random(seed)
    found = some_sheets(seed)
    for picture in (LINE, SQUARE, HEX, NINE):
        for _ in range(12):
            polygons = fitting_polygons(chances, picture, 2)
            for ring in list(polygons):
                for _ in range(chances.randint(0, 2)):
                    polygons += [read_from(ring, chances.randrange(len(ring) // 2)),
                                 read_from(backwards(ring), chances.randrange(len(ring) // 2))]
            chances.shuffle(polygons)
            sign = chances.choice((0, 1, None))
            signs = [chances.randint(0, 1) if sign is None else sign for _ in polygons]
            if len(polygons) < 60:
                found.append(Sheet(picture, polygons, signs, random_couples(chances, polygons)))
    return found


class TestUndoneSides(Case):
    def test_small(self):
        sheet = glue_in_order(SQUARE, [RING, BACK, RING, BACK], [0, 0, 1, 1])
        self.exactly(undone_sides(sheet, 0, 1), ((0, 3), (1, 2), (2, 1), (3, 0)))
        self.exactly(undone_sides(sheet, 1, 0), ((0, 3), (1, 2), (2, 1), (3, 0)))
        self.exactly(undone_sides(sheet, 2, 3), ((0, 3), (1, 2), (2, 1), (3, 0)))
        for one, other in ((0, 0), (0, 2), (0, 3), (1, 3), (2, 1)):
            self.assertIsNone(undone_sides(sheet, one, other))

    def test_read_from_another_point(self):
        # The turned ring is 0 1 1 0; read from its other point it is 1 0 0 1.
        sheet = glue_in_order(SQUARE, [RING, (1, 0, 0, 1)], [1, 1])
        self.exactly(undone_sides(sheet, 0, 1), ((0, 1), (1, 0), (2, 3), (3, 2)))
        self.exactly(undone_sides(sheet, 1, 0), ((0, 1), (1, 0), (2, 3), (3, 2)))
        turned = backwards(SIX)
        sheet = glue_in_order(NINE, [SIX, read_from(turned, 1)], [0, 0])
        self.exactly(undone_sides(sheet, 0, 1), ((0, 3), (1, 2), (2, 1), (3, 0), (4, 5), (5, 4)))
        sheet = glue_in_order(NINE, [SIX, read_from(turned, 2)], [0, 0])
        self.exactly(undone_sides(sheet, 0, 1), ((0, 1), (1, 0), (2, 5), (3, 4), (4, 3), (5, 2)))

    def test_rings_that_come_round(self):
        # A ring that is read the same from several points: the least number decides.
        sheet = glue_in_order(SQUARE, [RING * 3, read_from(BACK * 3, 1)], [0, 0])
        found = dict(undone_sides(sheet, 0, 1))
        self.assertEqual(found[0], (12 - 1 - 0 - 2) % 12)
        self.assertEqual(found, counterparts(sheet, 0, 1))
        sheet = glue_in_order(SQUARE, [SHORT, SHORT], [0, 0])
        self.exactly(undone_sides(sheet, 0, 1), ((0, 3), (1, 2), (2, 1), (3, 0)))
        self.assertIsNone(undone_sides(sheet, 1, 1))

    def test_any_sheet(self):
        seen = 0
        for sheet in more_sheets(571):
            for one in range(len(sheet)):
                for other in range(len(sheet)):
                    wanted, found = counterparts(sheet, one, other), undone_sides(sheet, one, other)
                    if wanted is None:
                        self.assertIsNone(found)
                        continue
                    seen += 1
                    self.exactly(found, tuple(sorted(wanted.items())))
                    sides = sides_of(sheet.polygons)
                    for side, partner in found:
                        pair, forth = sides[one, side]
                        self.assertEqual(sides[other, partner], (pair, not forth))
                    back = undone_sides(sheet, other, one)
                    self.assertEqual({b: a for a, b in back}, wanted)
        self.assertGreater(seen, 200)

    def test_errors(self):
        sheet = glue_in_order(SQUARE, [RING, BACK], [0, 0])
        for function in (undone_sides, struck_sheet):
            for thing in NO_WHOLES + (-1, 2, 10 ** 30):
                self.refused(BadPlace, {}, function, sheet, thing, 0)
                self.refused(BadPlace, {}, function, sheet, 0, thing)
            self.refused(BadPlace, {}, function, EMPTY, 0, 0)


class TestStruckSheet(Case):
    def test_small(self):
        sheet = glue_in_order(SQUARE, [RING, BACK], [0, 0])
        found = struck_sheet(sheet, 0, 1)
        self.assertIsInstance(found, Shorter)
        self.assertTrue(found.sheet == EMPTY)
        self.exactly(found.places, ())
        couples = [((0, 0), (3, 3)), ((0, 2), (3, 1)), ((1, 0), (0, 3)), ((1, 2), (0, 1)), ((2, 0), (1, 3)),
                   ((2, 2), (1, 1)), ((3, 0), (2, 3)), ((3, 2), (2, 1))]
        sheet = Sheet(SQUARE, [RING, BACK, RING, BACK], [0, 0, 0, 1], couples)
        found = struck_sheet(sheet, 1, 0)
        self.exactly(found.places, (2, 3))
        self.assertTrue(found.sheet == glue_in_order(SQUARE, [RING, BACK], [0, 1]))
        self.refused(NotUndone, {}, struck_sheet, sheet, 0, 3)
        self.refused(NotUndone, {}, struck_sheet, sheet, 2, 3)
        self.refused(NotUndone, {}, struck_sheet, sheet, 0, 0)
        self.refused(NotUndone, {}, struck_sheet, sheet, 0, 2)

    def test_long_ways(self):
        # The way from side 0 of the last polygon to its new mate goes over all sides of the first two.
        polygons = [SHORT, SHORT, SHORT]
        couples = [((2, 0), (0, 1)), ((1, 2), (0, 3)), ((1, 0), (2, 1)), ((0, 0), (1, 1)), ((0, 2), (1, 3)),
                   ((2, 2), (2, 3))]
        sheet = Sheet(LINE, polygons, [0, 0, 1], couples)
        found = struck_sheet(sheet, 0, 1)
        self.exactly(found.places, (2,))
        self.exactly(found.sheet.couples, (((0, 0), (0, 1)), ((0, 2), (0, 3))))
        self.exactly(found.sheet.signs, (1,))

    def test_any_sheet(self):
        seen, grown = 0, 0
        for sheet in more_sheets(572):
            for one, other in undone_couples(sheet)[:12]:
                found = struck_sheet(sheet, one, other)
                self.assertIsInstance(found.sheet, Sheet)
                self.assertTrue(found.sheet.picture == sheet.picture)
                self.exactly(found.places, tuple(k for k in range(len(sheet)) if k not in (one, other)))
                self.exactly(found.sheet.polygons, tuple(sheet.polygons[k] for k in found.places))
                self.exactly(found.sheet.signs, tuple(sheet.signs[k] for k in found.places))
                mates = struck_mates(sheet, one, other)
                wanted = [((found.places.index(p), s), (found.places.index(q), t))
                          for (p, s), (q, t) in mates.items() if s % 2 == 0]
                self.exactly(found.sheet.couples, tuple(sorted(wanted)))
                self.assertEqual(sheet_sign(found.sheet), sheet_sign(sheet))
                self.assertTrue(struck_sheet(sheet, other, one) == found)
                more = sum(handles_of(found.sheet)) - sum(handles_of(sheet))
                self.assertLessEqual(more, 1)
                if not any({one, other} <= set(piece) for piece in sheet_pieces(sheet)):
                    self.assertLessEqual(more, 0)
                seen, grown = seen + 1, grown + (more == 1)
        self.assertGreater(seen, 200)
        self.assertGreater(grown, 3)

    def test_not_undone(self):
        for sheet in more_sheets(573)[:25]:
            good = undone_couples(sheet)
            for one in range(len(sheet)):
                for other in range(len(sheet)):
                    if (one, other) not in good:
                        self.refused(NotUndone, {}, struck_sheet, sheet, one, other)

    @in_good_time
    def test_sixty_polygons(self):
        chances = a_random(574)
        polygons = greatest_polygons(575)
        sheet = Sheet(ALL, polygons, [1] * 60, random_couples(chances, polygons))
        found = struck_sheet(sheet, 7, 37)
        self.assertEqual((len(found.sheet), len(found.sheet.couples)), (58, 1740))
        mates = struck_mates(sheet, 7, 37)
        self.assertEqual({found.places[p]: found.places[q] for (p, s), (q, t) in found.sheet.couples if s == 6},
                         {p: q for (p, s), (q, t) in mates.items() if s == 6})


class TestShortenedSheet(Case):
    def step_by_step(self, sheet, place):
        """Strike the first two polygons that undo each other, one couple after the other."""
        places = tuple(range(len(sheet)))
        while True:
            couples = [(one, other) for one, other in undone_couples(sheet)
                       if one < other and places[one] != place and places[other] != place]
            if not couples:
                return sheet, places
            shorter = struck_sheet(sheet, *min(couples))
            sheet, places = shorter.sheet, tuple(places[k] for k in shorter.places)

    def test_small(self):
        polygons = [RING, BACK, RING, BACK, RING, BACK]
        sheet = glue_in_order(SQUARE, polygons, [0] * 6)
        for place, places in ((0, (0, 5)), (1, (1, 4)), (2, (2, 5)), (3, (3, 4)), (4, (4, 5)), (5, (4, 5))):
            found = shortened_sheet(sheet, place)
            self.assertIsInstance(found, Shorter)
            self.exactly(found.places, places)
            self.assertEqual(len(found.sheet), 2)
        sheet = glue_in_order(SQUARE, polygons, [0, 1, 0, 1, 0, 1])
        found = shortened_sheet(sheet, 3)
        self.exactly(found.places, (0, 1, 2, 3, 4, 5))
        self.assertTrue(found.sheet == sheet)

    def test_any_sheet(self):
        seen = 0
        for sheet in more_sheets(576):
            for place in range(min(len(sheet), 6)):
                found = shortened_sheet(sheet, place)
                wanted, places = self.step_by_step(sheet, place)
                self.exactly(found.places, places)
                self.assertTrue(found.sheet == wanted)
                kept = places.index(place)
                left = kinds_of(found.sheet, kept)
                for ring, sign, one, other in kinds_of(sheet, place):
                    due = (one + other) % 2 if rings_alike(ring, backwards(ring)) else abs(one - other)
                    many = sum(kind[2] + kind[3] for kind in left if kind[1] == sign
                               and (rings_alike(kind[0], ring) or rings_alike(kind[0], backwards(ring))))
                    self.assertEqual(many, due)
                seen += len(sheet) - len(places)
        self.assertGreater(seen, 200)

    def test_numbers_stay(self):
        chances = a_random(577)
        seen = 0
        for sheet in more_sheets(578):
            for place in range(min(len(sheet), 4)):
                kinds = kinds_of(sheet, place)
                if len(kinds) > 16:
                    continue
                premises = [(ring, sign) for ring, sign, _, _ in kinds]
                chances.shuffle(premises)
                found = shortened_sheet(sheet, place)
                kept = found.places.index(place)
                before, behind = numbers_from(sheet, place, premises), numbers_from(found.sheet, kept, premises)
                self.assertEqual(added_up(sheet.picture, premises, before),
                                 added_up(sheet.picture, premises, behind))
                self.assertEqual(added_up(sheet.picture, premises, behind),
                                 (ring_tour(sheet.picture, backwards(sheet.polygons[place])),
                                  last_sign(sheet, place)))
                if not any(rings_alike(ring, backwards(ring)) for ring, _ in premises):
                    self.assertEqual(before, behind)
                    seen += 1
        self.assertGreater(seen, 40)

    def test_errors(self):
        sheet = glue_in_order(SQUARE, [RING, BACK], [0, 0])
        for thing in NO_WHOLES + (-1, 2, 10 ** 30):
            self.refused(BadPlace, {}, shortened_sheet, sheet, thing)
        self.refused(BadPlace, {}, shortened_sheet, EMPTY, 0)

    @in_good_time
    def test_sixty_polygons(self):
        chances = a_random(579)
        polygons = greatest_polygons(580)
        sheet = Sheet(ALL, polygons, [1] * 60, random_couples(chances, polygons))
        found = shortened_sheet(sheet, 4)
        self.exactly(found.places, (4, 58))
        self.assertEqual(len(found.sheet.couples), 60)
        unlike = [chances.randint(0, 1) for _ in range(30)] * 2
        sheet = Sheet(ALL, polygons, unlike, sheet.couples)
        self.assertEqual(len(shortened_sheet(sheet, 59).sheet) % 2, 0)


class TestPastedSheet(Case):
    def test_small(self):
        one = sheet_for(SQUARE, [(RING, 1)], (2,), RING * 2, 0)
        other = sheet_for(SQUARE, [(RING * 2, 0)], (3,), RING * 6, 0)
        # The asked ring of the first sheet, turned, undoes a premise of the second one.
        found = pasted_sheet(one, 2, other, 0)
        self.assertIsInstance(found, Sheet)
        self.exactly(found.polygons, (RING, RING, RING * 2, RING * 2, backwards(RING * 6)))
        self.exactly(found.signs, (1, 1, 0, 0, 0))
        self.assertTrue(found == struck_sheet(beside_sheet(one, other), 2, 3).sheet)
        self.exactly(numbers_from(found, 4, [(RING, 1), (RING * 2, 0)]), (2, 2))

    def test_any_sheets(self):
        chances = a_random(581)
        seen = 0
        sheets = more_sheets(582)
        for sheet in sheets:
            others = [other for other in sheets if other.picture == sheet.picture and len(sheet) + len(other) <= 60]
            for other in [turned_sheet(sheet)] + chances.sample(others, min(3, len(others))):
                beside = beside_sheet(sheet, other)
                good = [(place, at) for place in range(len(sheet)) for at in range(len(other))
                        if counterparts(beside, place, len(sheet) + at) is not None]
                for place, at in chances.sample(good, min(2, len(good))):
                    found = pasted_sheet(sheet, place, other, at)
                    self.assertTrue(found == struck_sheet(beside, place, len(sheet) + at).sheet)
                    self.assertLessEqual(sum(handles_of(found)), sum(handles_of(sheet) + handles_of(other)))
                    self.assertEqual(sheet_sign(found), (sheet_sign(sheet) + sheet_sign(other)) % 2)
                    seen += 1
        self.assertGreater(seen, 100)

    def test_sixty_polygons_and_one_more(self):
        def row(many):
            couples = []
            for polygon in range(many):
                couples += [((polygon, 0), (polygon, 1)), ((polygon, 2), (polygon, 3))]
            return Sheet(LINE, [SHORT] * many, [0] * many, couples)
        self.assertEqual(len(pasted_sheet(row(30), 29, row(30), 7)), 58)
        self.assertEqual(len(pasted_sheet(row(1), 0, row(1), 0)), 0)
        self.refused(TooMany, {"most": 60}, pasted_sheet, row(31), 29, row(30), 7)
        self.refused(TooMany, {"most": 60}, pasted_sheet, row(1), 0, row(60), 7)

    def test_errors_in_their_order(self):
        one, other = glue_in_order(SQUARE, [RING, BACK], [0, 1]), glue_in_order(LINE, [SHORT] * 60, [0] * 60)
        for thing in NO_WHOLES + (-1, 2, 10 ** 30):
            self.refused(BadPlace, {}, pasted_sheet, one, thing, other, 60)
            self.refused(BadPlace, {}, pasted_sheet, other, 0, one, thing)
        for place in (2, 3):
            self.refused(BadPlace, {}, pasted_sheet, one, place, one, 0)
            self.refused(BadPlace, {}, pasted_sheet, one, place, other, 0)
        self.refused(OtherPicture, {}, pasted_sheet, one, 0, other, 59)
        self.refused(BadPlace, {}, pasted_sheet, one, 0, other, 60)
        great = glue_in_order(SQUARE, [SHORT] * 60, [0] * 60)
        self.refused(TooMany, {"most": 60}, pasted_sheet, one, 0, great, 59)
        self.refused(NotUndone, {}, pasted_sheet, one, 0, one, 0)
        self.refused(NotUndone, {}, pasted_sheet, one, 0, one, 1)
        self.refused(NotUndone, {}, pasted_sheet, one, 0, glue_in_order(SQUARE, [RING, BACK], [1, 1]), 1)
        self.assertEqual(len(pasted_sheet(one, 0, glue_in_order(SQUARE, [BACK, RING], [0, 1]), 0)), 2)

    def test_result(self):
        self.check_result(Shorter, "sheet places")
        self.assertTrue(Shorter(EMPTY, (1,)) == Shorter(Sheet(SQUARE, [], [], []), (1,)))


if __name__ == "__main__":
    unittest.main()
