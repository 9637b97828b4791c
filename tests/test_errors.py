"""The errors: all of the document, each straight under SheetError [0.7]."""

import unittest

from sheetproofs import errors
from tests.helpers import Case

ATTRIBUTES = {
    "BadPicture": ("what",), "NotOpen": ("pair",), "BadTour": ("what",), "BadWhole": (),
    "BadSaying": ("what",), "BadSign": (), "BadRing": ("what",), "BadText": ("row",),
    "BadPrime": (), "BadNumber": (), "ByZero": (), "BadTable": ("index",),
    "BadNumbers": ("index",), "BadExponent": (), "BadFactors": ("what", "index"),
    "TooMany": ("most",), "BadWidth": (), "BadRows": ("index",), "BadRow": (), "BadPlace": (),
    "BadTimes": (), "BadModulus": (), "BadReading": ("what",), "NotWithin": ("index",),
    "BadBook": ("index",), "TwoAlone": (), "BadWord": (), "BadMost": (), "BadSize": (),
    "BadSpan": ("what",), "BadSheet": ("what", "place"), "BadSide": (), "BadPiece": (),
    "BadCouple": (), "NotAlike": (), "NotSum": ("index",), "BadPremise": ("index",),
    "NotPremise": ("polygon",), "NotUndone": (), "OtherPicture": (),
    "BadSpace": ("what", "index"), "BadFull": ("index",), "NotInvertible": (),
    "NotSpanning": ("what",), "BadJoin": ("what",), "NotDerived": (), "BadPrices": ("index",),
    "BadTelling": (), "BadEdit": ("index", "what"), "BadGoal": ("what",), "BadPool": (),
    "NothingDone": (),
}


class TestErrors(Case):
    def test_all_errors_of_the_document_and_no_others(self):
        found = [name for name in vars(errors) if not name.startswith("_")]
        self.assertEqual(sorted(found), sorted(list(ATTRIBUTES) + ["SheetError"]))

    def test_each_is_straight_under_sheet_error(self):
        self.assertEqual(errors.SheetError.__bases__, (ValueError,))
        for name in ATTRIBUTES:
            error = getattr(errors, name)
            self.assertEqual(error.__bases__, (errors.SheetError,), name)
            self.assertEqual(error.__module__, "sheetproofs.errors")

    def test_attributes_in_the_order_listed(self):
        for name, attributes in ATTRIBUTES.items():
            given = [object() for _ in attributes]
            raised = getattr(errors, name)(*given)
            for attribute, thing in zip(attributes, given):
                self.assertIs(getattr(raised, attribute), thing, name)
            self.assertEqual(sorted(vars(raised)), sorted(attributes), name)

    def test_attributes_by_name(self):
        for name, attributes in ATTRIBUTES.items():
            raised = getattr(errors, name)(**{attribute: attribute for attribute in attributes})
            for attribute in attributes:
                self.assertEqual(getattr(raised, attribute), attribute)

    def test_each_is_caught_as_a_value_error(self):
        for name, attributes in ATTRIBUTES.items():
            with self.assertRaises(ValueError):
                raise getattr(errors, name)(*[0 for _ in attributes])


if __name__ == "__main__":
    unittest.main()
