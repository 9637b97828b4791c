"""Every name of the interface, in the file under whose heading it stands, with its parameters."""

import ast
import importlib
import inspect
import pathlib
import unittest

import sheetproofs
from sheetproofs import errors

FOLDER = pathlib.Path(sheetproofs.__file__).parent

# For each file its functions with their parameters.
FUNCTIONS = {
    "numbers": {
        "is_whole": "thing low=None high=None", "common_divisor": "one other",
        "common_multiple": "one other", "power_of": "base exponent"},
    "pictures": {"full_picture": "points walls"},
    "tours": {
        "check_tour": "picture tour", "no_tour": "picture", "tour_sum": "picture one other",
        "tour_times": "picture tour whole", "tour_size": "picture tour", "led_tour": "one other tour"},
    "sayings": {
        "check_saying": "picture saying", "minus_saying": "picture",
        "saying_sum": "picture one other", "saying_times": "picture saying whole"},
    "rings": {
        "ring_sides": "corners", "check_ring": "picture corners", "ring_tour": "picture corners",
        "ring_saying": "picture corners sign", "turned_ring": "corners",
        "tile_ring": "picture p u q v", "tiles_of": "picture"},
    "picturetexts": {
        "picture_text": "picture", "picture_of_text": "text", "ring_text": "corners",
        "ring_of_text": "picture text", "saying_text": "picture saying",
        "saying_of_text": "picture text"},
    "bases": {
        "tree_places": "picture", "other_places": "picture", "tour_of": "picture row",
        "row_of": "picture tour", "basis_tours": "picture"},
    "parting": {"rings_of": "picture tour", "rings_fault": "picture tour rings"},
    "fields": {"is_prime": "number", "source_of": "field", "steps_of": "field number"},
    "tables": {
        "check_table": "field picture table", "worth_of": "field picture table tour",
        "basis_worths": "field picture table", "holds_in": "field picture table saying",
        "first_broken": "field picture table sayings", "table_product": "field picture one other",
        "table_power": "field picture table exponent",
        "scaled_table": "field picture table point_factors wall_factors",
        "table_of": "field picture numbers"},
    "figures": {
        "same_figure": "field picture one other", "factors_fault": "field picture one other factors",
        "unlike_fault": "field picture one other unlike", "plain_form": "field picture table",
        "count_plain": "field picture", "plain_tables": "field picture",
        "tables_alike": "field picture table"},
    "forms": {
        "check_width": "width", "check_rows": "width rows", "check_row": "width row",
        "sum_rows": "width rows numbers", "form_of": "width rows", "rest_of": "width rows row",
        "holds_row": "width rows row", "form_with": "width rows", "numbers_for": "width rows row"},
    "turnings": {"elementary_rows": "width rows", "relations_of": "width rows"},
    "lots": {
        "plus_lot": "width one other", "meet_lot": "width one other",
        "lot_where": "width rows conditions", "let_go": "width rows place",
        "holds_lot": "width one other", "same_lot": "width one other",
        "size_within": "width inner outer", "times_into": "width rows row",
        "fold_in": "width rows row times"},
    "readings": {
        "reading_apart": "width rows row", "reading_modulo": "width rows row modulus",
        "count_readings": "width rows modulus"},
    "books": {
        "lifted_row": "picture saying", "lowered_row": "picture row", "book_rows": "book",
        "premise_sum": "book numbers", "derivation_of": "book saying",
        "derivation_fault": "book saying numbers", "least_often": "book saying"},
    "booktexts": {"book_text": "book", "book_of_text": "text"},
    "everyprime": {
        "follows_modulo": "book saying prime", "fold_fault": "book saying often part numbers",
        "refutal_fault": "book saying prime table", "prime_rule": "book saying", "word_at": "rule prime",
        "primes_of_word": "rule word most"},
    "follows": {"follows_everywhere": "book saying"},
    "overfractions": {
        "follows_fractions": "book saying", "kept_fault": "book saying signs exponents"},
    "evens": {
        "follows_even": "book saying", "even_fault": "book saying twos numbers",
        "turn_fault": "book saying modulus row"},
    "sizes": {"prime_of_size": "size", "sizes_between": "low high"},
    "splits": {"elementary_of": "book", "last_twos": "book"},
    "counts": {
        "count_figures": "book size", "count_tables": "book size", "has_table": "book size",
        "steps_for": "book size", "steps_fault": "book size steps", "list_figures": "book prime",
        "figures_over_fractions": "book"},
    "spreads": {"spread_of": "book tour size"},
    "formulas": {
        "formula_of": "book", "unlike_prime": "one other", "least_prime_with": "book",
        "sizes_with": "book low high"},
    "sheets": {
        "sheet_fault": "picture polygons signs couples", "rings_alike": "one other",
        "sheet_sayings": "sheet", "sheet_sign": "sheet", "last_sign": "sheet place",
        "turned_sheet": "sheet", "beside_sheet": "one other"},
    "fans": {
        "sheet_pieces": "sheet", "sheet_fans": "sheet", "fan_counts": "sheet", "handles_of": "sheet",
        "piece_sheet": "sheet number", "odd_pieces": "sheet"},
    "gluing": {
        "glue_in_order": "picture polygons signs", "count_gluings": "picture polygons",
        "all_gluings": "picture polygons signs", "swapped_sheet": "sheet one other",
        "fewest_handles": "picture polygons signs"},
    "sheetmakers": {
        "sheet_for": "picture premises numbers corners sign", "numbers_from": "sheet place premises"},
    "shortenings": {
        "undone_sides": "sheet one other", "struck_sheet": "sheet one other",
        "shortened_sheet": "sheet place", "pasted_sheet": "one place other at"},
    "ranks": {
        "rank_of_rows": "field rows", "rows_unbound": "field rows", "weights_for": "field rows row",
        "rows_product": "field rows others", "undoing_rows": "field rows"},
    "spaces": {
        "number_at": "space point wall", "full_table_of": "space", "picture_of": "space",
        "table_of_space": "space"},
    "meets": {"line_meets": "space p q u v", "tiles_that_hold": "space", "tile_book": "space"},
    "ringmeets": {
        "side_points": "space corners", "wall_through": "space corners", "common_point": "space corners"},
    "leastspace": {
        "check_full": "field full", "full_of": "field picture table", "least_width": "field full",
        "least_space": "field full", "unit_space": "field full"},
    "moves": {"moved_space": "space rows", "move_between": "one other"},
    "inspaces": {"follows_in_spaces": "book saying"},
    "joining": {
        "whole_picture": "joining", "shared_pairs": "joining", "first_saying": "joining saying",
        "second_saying": "joining saying", "back_to_first": "joining saying",
        "back_to_second": "joining saying", "whole_book": "joining one_book other_book"},
    "across": {
        "passed_on": "joining other_book", "told_across": "joining one_book other_book",
        "forget_pairs": "book pairs", "bridge_of": "joining one_book other_book saying",
        "bridge_fault": "joining one_book other_book saying bridge"},
    "jointables": {"join_tables": "joining field first second"},
    "leastchoices": {
        "needed_places": "book saying", "least_choices": "book saying", "least_breaks": "book saying"},
    "shares": {
        "tell_of": "picture telling tour", "cheapest_shares": "book prices saying",
        "shares_fault": "book prices saying found", "cheapest_whole": "book prices saying most"},
    "edits": {"apply_edit": "book edit", "apply_edits": "book edits"},
    "mends": {
        "goal_met": "book goal", "find_mends": "book goal pool", "mend_fault": "book goal pool choice"},
}

FIELD_METHODS = {
    "__eq__": "other", "check_number": "number", "number_of": "whole", "plus": "one other",
    "less": "one other", "times": "one other", "quotient": "one other", "power": "number exponent"}

# For each file its classes: the parameters, and what must stand in the class itself.
CLASSES = {
    "pictures": {
        "Picture": ("points walls pairs", {
            "__eq__": "other", "__len__": "", "pieces": None, "place_of": "pair", "is_open": "pair",
            "with_pair": "pair", "without_pair": "pair"})},
    "fields": {
        "RestField": ("prime", FIELD_METHODS), "FractionField": ("", FIELD_METHODS)},
    "figures": {
        "Factors": ("points walls", {"__eq__": "other"}),
        "Unlike": ("place first second", {"__eq__": "other"})},
    "forms": {"Turned": ("form turning", {"__eq__": "other"})},
    "turnings": {"Elementary": ("numbers left right left_back right_back", {"__eq__": "other"})},
    "lots": {"Fold": ("row numbers", {"__eq__": "other"})},
    "readings": {"Reading": ("modulus numbers", {"__eq__": "other", "__call__": "row"})},
    "books": {
        "Book": ("picture premises", {
            "__eq__": "other", "__len__": "", "__iter__": "", "lot": None, "with_premise": "saying",
            "without_premise": "place", "from_rings": "picture rings"})},
    "everyprime": {
        "Refutal": ("prime table", {"__eq__": "other"}),
        "NoTable": ("part numbers", {"__eq__": "other"}),
        "Folded": ("part numbers", {"__eq__": "other"}),
        "PrimeRule": ("period words span", {"__eq__": "other"})},
    "follows": {
        "Contrary": ("numbers", {"__eq__": "other"}), "Derivation": ("numbers", {"__eq__": "other"})},
    "overfractions": {
        "FractionDerivation": ("part numbers often sums", {"__eq__": "other"}),
        "KeptTable": ("signs exponents", {"__eq__": "other"})},
    "evens": {
        "EvenDerivation": ("twos numbers", {"__eq__": "other"}),
        "TurnTable": ("modulus row", {"__eq__": "other"})},
    "spreads": {"Spread": ("many each sign", {"__eq__": "other"})},
    "formulas": {
        "Formula": ("divisor constant free numbers", {"__eq__": "other", "many_at": "size"})},
    "sheets": {
        "Sheet": ("picture polygons signs couples", {
            "__eq__": "other", "__len__": "", "mate_of": "side", "side_pair": "side"})},
    "shortenings": {"Shorter": ("sheet places", {"__eq__": "other"})},
    "spaces": {"Space": ("field points walls", {"__eq__": "other"})},
    "meets": {"Meet": ("first second row", {"__eq__": "other"})},
    "ringmeets": {
        "Through": ("wall", {"__eq__": "other"}), "Spanned": ("weights", {"__eq__": "other"}),
        "Common": ("weights row", {"__eq__": "other"})},
    "inspaces": {"AgainstSpace": ("prime space", {"__eq__": "other"})},
    "joining": {"Joining": ("one other points walls", {"__eq__": "other"})},
    "across": {"Bridge": ("middle first second", {"__eq__": "other"})},
    "jointables": {
        "Joined": ("table points walls", {"__eq__": "other"}),
        "Parted": ("numbers one_worth other_worth", {"__eq__": "other"})},
    "shares": {
        "Shares": ("price parts telling", {"__eq__": "other"}), "NoShares": ("telling", {"__eq__": "other"}),
        "Whole": ("price numbers", {"__eq__": "other"})},
    "bench": {
        "Bench": ("book", {
            "current": None, "log": None, "make": "edit", "run": "edits", "take_back": "",
            "trial": "edits ask", "books": ""})},
}


def parameters_of(function):
    """Return the parameters as they are written in the tables above."""
    words = []
    for parameter in inspect.signature(function).parameters.values():
        if parameter.default is inspect.Parameter.empty:
            words.append(parameter.name)
        else:
            words.append(f"{parameter.name}={parameter.default!r}")
    return " ".join(words)


def defined_in(file, kind):
    """Return the names of what is defined at the top of a file of the package."""
    tree = ast.parse((FOLDER / f"{file}.py").read_text())
    return [node.name for node in tree.body if isinstance(node, kind)]


class TestInterface(unittest.TestCase):
    def test_functions(self):
        for file, functions in FUNCTIONS.items():
            module = importlib.import_module(f"sheetproofs.{file}")
            for name, parameters in functions.items():
                self.assertIn(name, defined_in(file, ast.FunctionDef), file)
                self.assertEqual(parameters_of(getattr(module, name)), parameters, name)

    def test_classes(self):
        for file, classes in CLASSES.items():
            module = importlib.import_module(f"sheetproofs.{file}")
            for name, (parameters, methods) in classes.items():
                self.assertIn(name, defined_in(file, ast.ClassDef), file)
                made = getattr(module, name)
                self.assertEqual(parameters_of(made), parameters, name)
                self.check_methods(made, methods)

    def check_methods(self, made, methods):
        for method, parameters in methods.items():
            self.assertIn(method, vars(made), made)
            found = vars(made)[method]
            if parameters is None:
                self.assertIsInstance(found, property)
            elif isinstance(found, staticmethod):
                self.assertEqual(parameters_of(found.__func__), parameters, method)
            else:
                self.assertEqual(parameters_of(found), f"self {parameters}".strip(), method)

    def test_errors(self):
        names = defined_in("errors", ast.ClassDef)
        self.assertEqual(len(names), 53)
        for name in names:
            self.assertTrue(issubclass(getattr(errors, name), errors.SheetError))

    def test_every_file_can_be_imported(self):
        for path in sorted(FOLDER.glob("*.py")):
            importlib.import_module(f"sheetproofs.{path.stem}")


if __name__ == "__main__":
    unittest.main()
