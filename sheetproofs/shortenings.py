"""Polygons that undo each other: struck from a sheet, and sheets pasted at such polygons."""

from sheetproofs.errors import NotUndone
from sheetproofs.rings import turned_ring
from sheetproofs.sheets import Sheet, beside_sheet, check_place


class Shorter:
    """A sheet from which polygons were struck, and the numbers that its polygons had."""

    def __init__(self, sheet, places):
        self.sheet = sheet
        self.places = places

    def __eq__(self, other):
        return isinstance(other, Shorter) and self.sheet == other.sheet and self.places == other.places


def _shift_between(turned, ring):
    """Return the least even number by which the ring is read later than the turned one, or None."""
    for shift in range(0, len(turned), 2):
        if turned[shift:] + turned[:shift] == ring:
            return shift
    return None


def _counterparts(sheet, one, other):
    """Return the counterpart of each side of one polygon, in their order, or None."""
    if one == other or sheet.signs[one] != sheet.signs[other]:
        return None
    shift = _shift_between(turned_ring(sheet.polygons[one]), sheet.polygons[other])
    if shift is None:
        return None
    many = len(sheet.polygons[one])
    return [(many - 1 - side - shift) % many for side in range(many)]


def undone_sides(sheet, one, other):
    """Return the couples of a side of one polygon and its counterpart in the other, or None."""
    check_place(sheet, one)
    check_place(sheet, other)
    sides = _counterparts(sheet, one, other)
    return None if sides is None else tuple(enumerate(sides))


def _new_mate(sheet, facing, side):
    """Return the mate of a side when the sides that face each other are struck."""
    mate = sheet.mate_of(side)
    while mate in facing:
        mate = sheet.mate_of(facing[mate])
    return mate


def struck_sheet(sheet, one, other):
    """Return the Shorter sheet without two polygons that undo each other."""
    sides = undone_sides(sheet, one, other)
    if sides is None:
        raise NotUndone()
    facing = {}
    for side, counterpart in sides:
        facing[one, side] = (other, counterpart)
        facing[other, counterpart] = (one, side)
    places = [place for place in range(len(sheet)) if place not in (one, other)]
    couples = []
    for (polygon, side), _ in sheet.couples:
        if polygon not in (one, other):
            mate, mate_side = _new_mate(sheet, facing, (polygon, side))
            couples.append(((places.index(polygon), side), (places.index(mate), mate_side)))
    left = Sheet(sheet.picture, [sheet.polygons[place] for place in places],
                 [sheet.signs[place] for place in places], couples)
    return Shorter(left, tuple(places))


def _first_undoing(sheet, one, kept):
    """Return the least polygon behind this one, and not the kept one, that undoes it, or None."""
    for other in range(one + 1, len(sheet)):
        if other != kept and _counterparts(sheet, one, other) is not None:
            return other
    return None


def shortened_sheet(sheet, place):
    """Return the Shorter sheet in which no two polygons but the one at the place undo each other."""
    check_place(sheet, place)
    left = sheet
    places = tuple(range(len(sheet)))
    one = 0
    # No polygon before this one is undone by any, and striking others does not change this.
    while one < len(left):
        kept = places.index(place)
        other = None if one == kept else _first_undoing(left, one, kept)
        if other is None:
            one = one + 1
        else:
            shorter = struck_sheet(left, one, other)
            left = shorter.sheet
            places = tuple([places[at] for at in shorter.places])
    return Shorter(left, places)


def pasted_sheet(one, place, other, at):
    """Return the sheet of both without a polygon of each that undo each other."""
    check_place(one, place)
    check_place(other, at)
    beside = beside_sheet(one, other)
    return struck_sheet(beside, place, len(one) + at).sheet
