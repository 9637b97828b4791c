"""The pieces of a sheet, the fans of its corners, and its handles."""

from sheetproofs.errors import BadPiece
from sheetproofs.numbers import is_whole
from sheetproofs.pictures import merged_labels
from sheetproofs.sheets import Sheet


def sheet_pieces(sheet):
    """Return the pieces as ascending tuples of polygons, ordered by their least polygon."""
    labels = list(range(len(sheet)))
    for (polygon, _), (mate, _) in sheet.couples:
        labels = merged_labels(labels, labels[polygon], labels[mate])
    pieces = [tuple([polygon for polygon in range(len(sheet)) if labels[polygon] == label])
              for label in range(len(sheet))]
    return tuple([piece for piece in pieces if piece])


def _corner_behind(sheet, corner):
    """Return the corner at which the mate of the side that leaves this corner ends."""
    polygon, number = sheet.mate_of(corner)
    return polygon, (number + 1) % len(sheet.polygons[polygon])


def sheet_fans(sheet):
    """Return the fans, each from its least corner on, ordered by these."""
    fans = []
    met = {}
    for polygon, ring in enumerate(sheet.polygons):
        for number in range(len(ring)):
            fan = []
            corner = (polygon, number)
            while corner not in met:
                met[corner] = True
                fan.append(corner)
                corner = _corner_behind(sheet, corner)
            if fan:
                fans.append(tuple(fan))
    return tuple(fans)


def fan_counts(sheet):
    """Return the numbers of fans at each point and at each wall."""
    points = [0] * sheet.picture.points
    walls = [0] * sheet.picture.walls
    for fan in sheet_fans(sheet):
        polygon, number = fan[0]
        corner = sheet.polygons[polygon][number]
        if number % 2 == 0:
            points[corner] = points[corner] + 1
        else:
            walls[corner] = walls[corner] + 1
    return tuple(points), tuple(walls)


def handles_of(sheet):
    """Return the handles of each piece."""
    fans = [0] * len(sheet)
    for fan in sheet_fans(sheet):
        polygon, _ = fan[0]
        fans[polygon] = fans[polygon] + 1
    # Every couple has just one side forth, and half of the sides of a polygon go forth.
    couples = [len(ring) // 2 for ring in sheet.polygons]
    handles = []
    for piece in sheet_pieces(sheet):
        sums = [fans[polygon] - couples[polygon] + 1 for polygon in piece]
        handles.append((2 - sum(sums)) // 2)
    return tuple(handles)


def piece_sheet(sheet, number):
    """Return one piece alone as a sheet."""
    pieces = sheet_pieces(sheet)
    if not is_whole(number, 0, len(pieces) - 1):
        raise BadPiece()
    piece = pieces[number]
    couples = [((piece.index(polygon), side), (piece.index(mate), mate_side))
               for (polygon, side), (mate, mate_side) in sheet.couples if polygon in piece]
    return Sheet(sheet.picture, [sheet.polygons[polygon] for polygon in piece],
                 [sheet.signs[polygon] for polygon in piece], couples)


def odd_pieces(sheet):
    """Return the numbers of the pieces whose signs add up to an odd number."""
    pieces = sheet_pieces(sheet)
    return tuple([number for number in range(len(pieces))
                  if sum([sheet.signs[polygon] for polygon in pieces[number]]) % 2 == 1])
