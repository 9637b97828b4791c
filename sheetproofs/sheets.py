"""Sheets: polygons whose sides are glued in couples, and what they tell."""

from sheetproofs.errors import BadPlace, BadSheet, BadSide, OtherPicture, TooMany
from sheetproofs.leads import as_tuples
from sheetproofs.numbers import is_sign, is_whole
from sheetproofs.rings import is_ring, ring_sides, ring_tour, turned_ring
from sheetproofs.sequences import has_between, is_sequence, wrong_index

MOST_POLYGONS = 60


def polygons_fault(picture, polygons):
    """Return None for a sequence of rings, else the word "polygon" and its place."""
    if not has_between(polygons, 0, MOST_POLYGONS):
        return "polygon", -1
    index = wrong_index(polygons, None, lambda ring: is_ring(picture, ring))
    return None if index is None else ("polygon", index)


def signs_fault(polygons, signs):
    """Return None for a sequence of one sign for each polygon, else the word "sign" and its place."""
    index = wrong_index(signs, len(polygons), is_sign)
    return None if index is None else ("sign", index)


def _is_side(sides, thing):
    """Tell whether the thing is a couple of a polygon and the number of one of its sides."""
    return (is_sequence(thing, 2) and is_whole(thing[0], 0, len(sides) - 1)
            and is_whole(thing[1], 0, len(sides[thing[0]]) - 1))


def _is_couple(sides, thing):
    """Tell whether the thing is a couple of a side forth and a side back on one open pair."""
    if not is_sequence(thing, 2) or not _is_side(sides, thing[0]) or not _is_side(sides, thing[1]):
        return False
    pair, step = sides[thing[0][0]][thing[0][1]]
    mate_pair, mate_step = sides[thing[1][0]][thing[1][1]]
    return step == 1 and mate_step == -1 and pair == mate_pair


def _couples_fault(sides, couples):
    """Return None for couples with every side once, else the word and the place that apply first."""
    index = wrong_index(couples, None, lambda couple: _is_couple(sides, couple))
    if index is not None:
        return "couple", index
    met = {}
    for index, couple in enumerate(couples):
        for side in couple:
            if tuple(side) in met:
                return "twice", index
            met[tuple(side)] = True
    for polygon, ring in enumerate(sides):
        for number in range(len(ring)):
            if (polygon, number) not in met:
                return "free", polygon
    return None


def sheet_fault(picture, polygons, signs, couples):
    """Return None if these make a sheet, else the first word that applies and its place."""
    fault = polygons_fault(picture, polygons)
    if fault is None:
        fault = signs_fault(polygons, signs)
    if fault is None:
        fault = _couples_fault([ring_sides(ring) for ring in polygons], couples)
    return fault


class Sheet:
    """Polygons with signs, and the ascending couples in which every side stands once."""

    def __init__(self, picture, polygons, signs, couples):
        fault = sheet_fault(picture, polygons, signs, couples)
        if fault is not None:
            what, place = fault
            raise BadSheet(what, place)
        self.picture = picture
        self.polygons = as_tuples(polygons)
        self.signs = tuple(signs)
        self.couples = tuple(sorted([as_tuples(couple) for couple in couples]))
        self._sides = [ring_sides(ring) for ring in self.polygons]
        self._mates = {}
        for forth, back in self.couples:
            self._mates[forth] = back
            self._mates[back] = forth

    def __eq__(self, other):
        return (isinstance(other, Sheet) and self.picture == other.picture
                and self.polygons == other.polygons and self.signs == other.signs
                and self.couples == other.couples)

    def __len__(self):
        return len(self.polygons)

    def mate_of(self, side):
        """Return the side to which this side is glued."""
        if not _is_side(self._sides, side):
            raise BadSide()
        return self._mates[tuple(side)]

    def side_pair(self, side):
        """Return the open pair of a side."""
        if not _is_side(self._sides, side):
            raise BadSide()
        pair, _ = self._sides[side[0]][side[1]]
        return pair


def check_place(sheet, place):
    """Raise BadPlace for anything but the number of a polygon."""
    if not is_whole(place, 0, len(sheet) - 1):
        raise BadPlace()


def sheet_sayings(sheet):
    """Return the sayings of the polygons."""
    return tuple([(ring_tour(sheet.picture, ring), sign)
                  for ring, sign in zip(sheet.polygons, sheet.signs)])


def sheet_sign(sheet):
    """Return the sum of all signs modulo 2."""
    return sum(sheet.signs) % 2


def last_sign(sheet, place):
    """Return the sum modulo 2 of the signs of all polygons but one."""
    check_place(sheet, place)
    return (sum(sheet.signs) - sheet.signs[place]) % 2


def rings_alike(one, other):
    """Tell whether one ring is the other one, perhaps read from another of its points."""
    first = tuple(one)
    second = tuple(other)
    return any([second[at:] + second[:at] == first for at in range(0, len(second), 2)])


def _turned_side(sheet, side):
    """Return the side that the side becomes when its polygon is turned."""
    polygon, number = side
    return polygon, len(sheet.polygons[polygon]) - 1 - number


def turned_sheet(sheet):
    """Return the sheet with every polygon read backwards."""
    couples = [(_turned_side(sheet, back), _turned_side(sheet, forth))
               for forth, back in sheet.couples]
    return Sheet(sheet.picture, [turned_ring(ring) for ring in sheet.polygons], sheet.signs, couples)


def beside_sheet(one, other):
    """Return the sheet of the polygons and the couples of both."""
    if one.picture != other.picture:
        raise OtherPicture()
    many = len(one)
    if many + len(other) > MOST_POLYGONS:
        raise TooMany(MOST_POLYGONS)
    moved = [((polygon + many, number), (mate + many, mate_number))
             for (polygon, number), (mate, mate_number) in other.couples]
    return Sheet(one.picture, one.polygons + other.polygons, one.signs + other.signs,
                 list(one.couples) + moved)
