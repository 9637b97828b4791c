"""All errors of the package, each straight under SheetError."""


class SheetError(ValueError):
    """What all errors of this package are."""


class BadPicture(SheetError):
    """The points, the walls or the pairs make no picture."""

    def __init__(self, what):
        self.what = what


class NotOpen(SheetError):
    """This is no open pair of the picture."""

    def __init__(self, pair):
        self.pair = pair


class BadTour(SheetError):
    """This is no tour of the picture."""

    def __init__(self, what):
        self.what = what


class BadWhole(SheetError):
    """This is no whole number."""


class BadSaying(SheetError):
    """This is no saying of the picture."""

    def __init__(self, what):
        self.what = what


class BadSign(SheetError):
    """This is no sign 0 or 1."""


class BadRing(SheetError):
    """These corners are no ring of the picture."""

    def __init__(self, what):
        self.what = what


class BadText(SheetError):
    """The row of this index is not written as it must be."""

    def __init__(self, row):
        self.row = row


class BadPrime(SheetError):
    """This is no prime from 2 to 20000."""


class BadNumber(SheetError):
    """This is no number of the field, or a zero where none may stand."""


class ByZero(SheetError):
    """Zero has no inverse."""


class BadTable(SheetError):
    """This is no table of the picture over the field."""

    def __init__(self, index):
        self.index = index


class BadNumbers(SheetError):
    """These are not the numbers that are due."""

    def __init__(self, index):
        self.index = index


class BadExponent(SheetError):
    """This is no exponent that is let."""


class BadFactors(SheetError):
    """These are no factors for the points or the walls."""

    def __init__(self, what, index):
        self.what = what
        self.index = index


class TooMany(SheetError):
    """There would be more than are let."""

    def __init__(self, most):
        self.most = most


class BadWidth(SheetError):
    """This is no width from 0 to 40."""


class BadRows(SheetError):
    """These are no rows of the width."""

    def __init__(self, index):
        self.index = index


class BadRow(SheetError):
    """This is no row of the length that is due."""


class BadPlace(SheetError):
    """There is no such place."""


class BadTimes(SheetError):
    """This is no whole number from 1."""


class BadModulus(SheetError):
    """This is no whole number from 2."""


class BadReading(SheetError):
    """The modulus or the numbers make no reading."""

    def __init__(self, what):
        self.what = what


class NotWithin(SheetError):
    """The row of this index is not in the outer lot."""

    def __init__(self, index):
        self.index = index


class BadBook(SheetError):
    """These premises make no book."""

    def __init__(self, index):
        self.index = index


class TwoAlone(SheetError):
    """The prime 2 is not let here."""


class BadWord(SheetError):
    """This is none of the words."""


class BadMost(SheetError):
    """This is no bound that is let."""


class BadSize(SheetError):
    """This is no size of a field."""


class BadSpan(SheetError):
    """This is no bound of a span of sizes."""

    def __init__(self, what):
        self.what = what


class BadSheet(SheetError):
    """These polygons, signs and couples make no sheet."""

    def __init__(self, what, place):
        self.what = what
        self.place = place


class BadSide(SheetError):
    """This is no side of the sheet."""


class BadPiece(SheetError):
    """There is no piece with this number."""


class BadCouple(SheetError):
    """There is no couple with this number."""


class NotAlike(SheetError):
    """The two couples are equal or lie on unlike pairs."""


class NotSum(SheetError):
    """The tours do not add up at this open pair, or the signs do not."""

    def __init__(self, index):
        self.index = index


class BadPremise(SheetError):
    """This is no premise that is let."""

    def __init__(self, index):
        self.index = index


class NotPremise(SheetError):
    """This polygon is none of the premises."""

    def __init__(self, polygon):
        self.polygon = polygon


class NotUndone(SheetError):
    """Neither polygon undoes the other."""


class OtherPicture(SheetError):
    """The pictures differ."""


class BadSpace(SheetError):
    """These points and walls make no space."""

    def __init__(self, what, index):
        self.what = what
        self.index = index


class BadFull(SheetError):
    """This is no full table."""

    def __init__(self, index):
        self.index = index


class NotInvertible(SheetError):
    """These rows have no undoing rows."""


class NotSpanning(SheetError):
    """The points or the walls do not span the space."""

    def __init__(self, what):
        self.what = what


class BadJoin(SheetError):
    """These couples join no two pictures."""

    def __init__(self, what):
        self.what = what


class NotDerived(SheetError):
    """The book does not derive the saying."""


class BadPrices(SheetError):
    """These are not the prices of the premises."""

    def __init__(self, index):
        self.index = index


class BadTelling(SheetError):
    """This is no telling of the picture."""


class BadEdit(SheetError):
    """The edit of this index is refused."""

    def __init__(self, index, what):
        self.index = index
        self.what = what


class BadGoal(SheetError):
    """This is no goal."""

    def __init__(self, what):
        self.what = what


class BadPool(SheetError):
    """This is no pool of edits."""


class NothingDone(SheetError):
    """There is no edit to take back."""
