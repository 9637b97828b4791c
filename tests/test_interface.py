"""Every name of the interface, in the file under whose heading it stands, with its parameters."""

import ast
import importlib
import inspect
import pathlib
import unittest

import sheetproofs
from sheetproofs import errors

FOLDER = pathlib.Path(sheetproofs.__file__).parent

# For each file its functions with their parameters.
FUNCTIONS = {
    "numbers": {
        "is_whole": "thing low=None high=None", "common_divisor": "one other",
        "common_multiple": "one other", "power_of": "base exponent"},
    "pictures": {"full_picture": "points walls"},
    "tours": {
        "check_tour": "picture tour", "no_tour": "picture", "tour_sum": "picture one other",
        "tour_times": "picture tour whole", "tour_size": "picture tour", "led_tour": "one other tour"},
    "sayings": {
        "check_saying": "picture saying", "minus_saying": "picture",
        "saying_sum": "picture one other", "saying_times": "picture saying whole"},
    "rings": {
        "ring_sides": "corners", "check_ring": "picture corners", "ring_tour": "picture corners",
        "ring_saying": "picture corners sign", "turned_ring": "corners",
        "tile_ring": "picture p u q v", "tiles_of": "picture"},
    "picturetexts": {
        "picture_text": "picture", "picture_of_text": "text", "ring_text": "corners",
        "ring_of_text": "picture text", "saying_text": "picture saying",
        "saying_of_text": "picture text"},
    "bases": {
        "tree_places": "picture", "other_places": "picture", "tour_of": "picture row",
        "row_of": "picture tour", "basis_tours": "picture"},
    "parting": {"rings_of": "picture tour", "rings_fault": "picture tour rings"},
    "fields": {"is_prime": "number", "source_of": "field", "steps_of": "field number"},
    "tables": {
        "check_table": "field picture table", "worth_of": "field picture table tour",
        "basis_worths": "field picture table", "holds_in": "field picture table saying",
        "first_broken": "field picture table sayings", "table_product": "field picture one other",
        "table_power": "field picture table exponent",
        "scaled_table": "field picture table point_factors wall_factors",
        "table_of": "field picture numbers"},
    "figures": {
        "same_figure": "field picture one other", "factors_fault": "field picture one other factors",
        "unlike_fault": "field picture one other unlike", "plain_form": "field picture table",
        "count_plain": "field picture", "plain_tables": "field picture",
        "tables_alike": "field picture table"},
    "forms": {
        "check_width": "width", "check_rows": "width rows", "check_row": "width row",
        "sum_rows": "width rows numbers", "form_of": "width rows", "rest_of": "width rows row",
        "holds_row": "width rows row", "form_with": "width rows", "numbers_for": "width rows row"},
    "turnings": {"elementary_rows": "width rows", "relations_of": "width rows"},
    "lots": {
        "plus_lot": "width one other", "meet_lot": "width one other",
        "lot_where": "width rows conditions", "let_go": "width rows place",
        "holds_lot": "width one other", "same_lot": "width one other",
        "size_within": "width inner outer", "times_into": "width rows row",
        "fold_in": "width rows row times"},
}

FIELD_METHODS = {
    "__eq__": "other", "check_number": "number", "number_of": "whole", "plus": "one other",
    "less": "one other", "times": "one other", "quotient": "one other", "power": "number exponent"}

# For each file its classes: the parameters, and what must stand in the class itself.
CLASSES = {
    "pictures": {
        "Picture": ("points walls pairs", {
            "__eq__": "other", "__len__": "", "pieces": None, "place_of": "pair", "is_open": "pair",
            "with_pair": "pair", "without_pair": "pair"})},
    "fields": {
        "RestField": ("prime", FIELD_METHODS), "FractionField": ("", FIELD_METHODS)},
    "figures": {
        "Factors": ("points walls", {"__eq__": "other"}),
        "Unlike": ("place first second", {"__eq__": "other"})},
    "forms": {"Turned": ("form turning", {"__eq__": "other"})},
    "turnings": {"Elementary": ("numbers left right left_back right_back", {"__eq__": "other"})},
    "lots": {"Fold": ("row numbers", {"__eq__": "other"})},
}


def parameters_of(function):
    """Return the parameters as they are written in the tables above."""
    words = []
    for parameter in inspect.signature(function).parameters.values():
        if parameter.default is inspect.Parameter.empty:
            words.append(parameter.name)
        else:
            words.append(f"{parameter.name}={parameter.default!r}")
    return " ".join(words)


def defined_in(file, kind):
    """Return the names of what is defined at the top of a file of the package."""
    tree = ast.parse((FOLDER / f"{file}.py").read_text())
    return [node.name for node in tree.body if isinstance(node, kind)]


class TestInterface(unittest.TestCase):
    def test_functions(self):
        for file, functions in FUNCTIONS.items():
            module = importlib.import_module(f"sheetproofs.{file}")
            for name, parameters in functions.items():
                self.assertIn(name, defined_in(file, ast.FunctionDef), file)
                self.assertEqual(parameters_of(getattr(module, name)), parameters, name)

    def test_classes(self):
        for file, classes in CLASSES.items():
            module = importlib.import_module(f"sheetproofs.{file}")
            for name, (parameters, methods) in classes.items():
                self.assertIn(name, defined_in(file, ast.ClassDef), file)
                made = getattr(module, name)
                self.assertEqual(parameters_of(made), parameters, name)
                self.check_methods(made, methods)

    def check_methods(self, made, methods):
        for method, parameters in methods.items():
            self.assertIn(method, vars(made), made)
            found = vars(made)[method]
            if parameters is None:
                self.assertIsInstance(found, property)
            else:
                self.assertEqual(parameters_of(found), f"self {parameters}".strip(), method)

    def test_errors(self):
        names = defined_in("errors", ast.ClassDef)
        self.assertEqual(len(names), 53)
        for name in names:
            self.assertTrue(issubclass(getattr(errors, name), errors.SheetError))

    def test_every_file_can_be_imported(self):
        for path in sorted(FOLDER.glob("*.py")):
            importlib.import_module(f"sheetproofs.{path.stem}")


if __name__ == "__main__":
    unittest.main()
