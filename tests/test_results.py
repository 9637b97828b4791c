"""All result classes, and all other objects, compared with each other [0.5]."""

import importlib
import unittest

from sheetproofs.across import Bridge
from sheetproofs.bench import Bench
from sheetproofs.books import Book
from sheetproofs.everyprime import NoTable, PrimeRule, Refutal
from sheetproofs.evens import EvenDerivation, TurnTable
from sheetproofs.fields import FractionField, RestField
from sheetproofs.figures import Factors, Unlike
from sheetproofs.follows import Contrary, Derivation
from sheetproofs.formulas import Formula
from sheetproofs.inspaces import AgainstSpace
from sheetproofs.joining import Joining
from sheetproofs.lots import Fold
from sheetproofs.pictures import Picture
from sheetproofs.readings import Reading
from sheetproofs.sheets import Sheet
from sheetproofs.spaces import Space
from tests.helpers import Case
from tests.test_interface import CLASSES, parameters_of

# The classes of point 0.5; a Reading is not named there, and checks what it is given.
RESULTS = """Factors Unlike Turned Elementary Fold Contrary Derivation Refutal NoTable Folded PrimeRule
    FractionDerivation KeptTable EvenDerivation TurnTable Spread Formula Shorter Meet Through Spanned Common
    AgainstSpace Bridge Joined Parted Shares NoShares Whole""".split()


def result_classes():
    """Return all result classes by their names."""
    found = {}
    for file, classes in CLASSES.items():
        for name in classes:
            if name in RESULTS:
                found[name] = getattr(importlib.import_module(f"sheetproofs.{file}"), name)
    return found


class TestResults(Case):
    def test_all_are_there(self):
        self.assertEqual(sorted(result_classes()), sorted(RESULTS))

    def test_attributes_and_equality(self):
        for kind in result_classes().values():
            self.check_result(kind, parameters_of(kind))

    def test_no_two_classes_are_equal(self):
        made = [kind(*[7 for _ in parameters_of(kind).split()]) for kind in result_classes().values()]
        picture, field = Picture(1, 1, [(0, 0)]), RestField(7)
        made += [picture, field, FractionField(), Book(picture, ()), Sheet(picture, (), (), ()),
                 Reading(2, (1,)), Space(field, [(1,)], [(1,)]), Joining(picture, picture, (), ()),
                 Bench(Book(picture, ()))]
        for at, one in enumerate(made):
            for k, other in enumerate(made):
                self.assertIs(one == other, at == k)
                self.assertIs(one != other, at != k)
            for other in (None, 7, (7,), (7, 7), [7], "7", object(), one.__class__):
                self.assertIs(one == other, False)

    def test_lists_stay_lists(self):
        for kind in result_classes().values():
            names = parameters_of(kind).split()
            values = [[1, [2]] for _ in names]
            made = kind(*values)
            for name, value in zip(names, values):
                self.assertIs(getattr(made, name), value)
            self.assertFalse(made == kind(*[(1, [2]) for _ in names]))

    def test_names_of_arguments(self):
        self.assertTrue(Factors(points=(1,), walls=2) == Factors((1,), 2))
        self.assertTrue(Unlike(place=1, first=2, second=3) == Unlike(1, 2, 3))
        self.assertTrue(Bridge(middle=1, first=2, second=3) == Bridge(1, 2, 3))
        self.assertTrue(Fold(row=1, numbers=2) == Fold(1, 2))
        self.assertTrue(Formula(divisor=2, constant=1, free=0, numbers=()) == Formula(2, 1, 0, ()))
        self.assertTrue(AgainstSpace(prime=3, space=None) == AgainstSpace(3, None))

    def test_like_attributes_of_unlike_classes(self):
        for one, other in ((Contrary, Derivation), (NoTable, EvenDerivation), (Refutal, TurnTable)):
            names = parameters_of(one).split()
            values = [(1,)] * len(names)
            self.assertFalse(one(*values) == other(*values))
            self.assertFalse(other(*values) == one(*values))
        self.assertFalse(PrimeRule(1, 2, 3) == Unlike(1, 2, 3))


if __name__ == "__main__":
    unittest.main()
