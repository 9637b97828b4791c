"""Rows of whole numbers and the forms of their lots [4.1 to 4.5]."""

import unittest

from sheetproofs.errors import BadNumbers, BadRow, BadRows, BadWidth
from sheetproofs.forms import (Turned, check_row, check_rows, check_width, form_of, form_with, holds_row,
                               numbers_for, rest_of, sum_rows)
from tests.helpers import NO_SEQUENCES, NO_WHOLES, Case, a_random, in_good_time
from tests.lattices import (bound_rows, box, in_form, is_form, lead, random_rows, some_lots, total)

EXAMPLE = [(4, 6), (6, 6)]
BAD_WIDTHS = NO_WHOLES + (-1, 41, 10 ** 30)
# Rows of width 2 that are none, with the index that is due.
BAD_ROWS = (
    [(thing, -1) for thing in NO_SEQUENCES] + [(((1, 2),) * 41, -1), ([None] * 41, -1)]
    + [([(1, 2), thing, None], 1) for thing in NO_SEQUENCES + ((), (1,), (1, 2, 3))]
    + [(([1, thing],), 0) for thing in NO_WHOLES]
    + [(((1, 2),) * 39 + ((True, 2),), 39), ([(1, 2), (1, 2), (thing for thing in (1, 2))], 2)]
)
NO_ROWS = NO_SEQUENCES + ((), (1,), (1, 2, 3)) + tuple((thing, 2) for thing in NO_WHOLES) + ((1, True),)


class TestChecks(Case):
    def test_width(self):
        for width in (0, 1, 39, 40):
            self.exactly(check_width(width), width)
        for thing in BAD_WIDTHS:
            self.refused(BadWidth, {}, check_width, thing)

    def test_rows(self):
        self.exactly(check_rows(2, [[4, 6], (6, 6)]), ((4, 6), (6, 6)))
        self.exactly(check_rows(2, []), ())
        self.exactly(check_rows(0, ((), [])), ((), ()))
        self.exactly(check_rows(40, [[10 ** 299] * 40] * 40), ((10 ** 299,) * 40,) * 40)
        for rows, index in BAD_ROWS:
            self.refused(BadRows, {"index": index}, check_rows, 2, rows)
        self.refused(BadRows, {"index": 0}, check_rows, 0, [(0,)])

    def test_row(self):
        self.exactly(check_row(2, [4, -10 ** 299]), (4, -10 ** 299))
        self.exactly(check_row(0, []), ())
        for thing in NO_ROWS:
            self.refused(BadRow, {}, check_row, 2, thing)
        self.refused(BadRow, {}, check_row, 0, (0,))
        self.refused(BadRow, {}, check_row, 40, (0,) * 39)

    def test_every_function_checks_the_width_first(self):
        for thing in BAD_WIDTHS:
            self.refused(BadWidth, {}, check_rows, thing, None)
            self.refused(BadWidth, {}, check_row, thing, None)
            self.refused(BadWidth, {}, sum_rows, thing, None, None)
            self.refused(BadWidth, {}, form_of, thing, None)
            self.refused(BadWidth, {}, form_with, thing, None)
            self.refused(BadWidth, {}, rest_of, thing, None, None)
            self.refused(BadWidth, {}, holds_row, thing, None, None)
            self.refused(BadWidth, {}, numbers_for, thing, None, None)

    def test_then_the_rows_and_then_the_row(self):
        for rows, index in BAD_ROWS:
            self.refused(BadRows, {"index": index}, sum_rows, 2, rows, None)
            self.refused(BadRows, {"index": index}, form_of, 2, rows)
            self.refused(BadRows, {"index": index}, form_with, 2, rows)
            self.refused(BadRows, {"index": index}, rest_of, 2, rows, None)
            self.refused(BadRows, {"index": index}, holds_row, 2, rows, None)
            self.refused(BadRows, {"index": index}, numbers_for, 2, rows, None)
        for thing in NO_ROWS:
            self.refused(BadRow, {}, rest_of, 2, EXAMPLE, thing)
            self.refused(BadRow, {}, holds_row, 2, EXAMPLE, thing)
            self.refused(BadRow, {}, numbers_for, 2, EXAMPLE, thing)

    def test_nothing_passed_in_is_changed_or_kept(self):
        rows = [[4, 6], [6, 6]]
        kept = check_rows(2, rows)
        form_of(2, rows)
        form_with(2, rows)
        rest_of(2, rows, rows[0])
        numbers_for(2, rows, rows[1])
        self.assertEqual(rows, [[4, 6], [6, 6]])
        rows[0][0] = 5
        self.assertEqual(kept, ((4, 6), (6, 6)))


class TestSumRows(Case):
    def test_sums(self):
        self.exactly(sum_rows(2, EXAMPLE, [1, -1]), (-2, 0))
        self.exactly(sum_rows(2, (), ()), (0, 0))
        self.exactly(sum_rows(0, ((), ()), (5, 6)), ())
        self.exactly(sum_rows(1, [[10 ** 299]], (-10 ** 299,)), (-10 ** 598,))
        chances = a_random(71)
        for width, rows in some_lots(71):
            numbers = [chances.randint(-9, 9) for _ in rows]
            self.exactly(sum_rows(width, rows, numbers), total(width, rows, numbers))

    def test_bad_numbers(self):
        for thing in NO_SEQUENCES + ((), (1,), (1, 2, 3), (None,) * 3):
            self.refused(BadNumbers, {"index": -1}, sum_rows, 2, EXAMPLE, thing)
        for thing in NO_WHOLES:
            self.refused(BadNumbers, {"index": 0}, sum_rows, 2, EXAMPLE, (thing, thing))
            self.refused(BadNumbers, {"index": 1}, sum_rows, 2, EXAMPLE, [1, thing])
        self.refused(BadNumbers, {"index": -1}, sum_rows, 2, (), (1,))


class TestForm(Case):
    def check_form(self, width, rows):
        """Check that the form is one, and that each of the two lots has the rows of the other."""
        form = form_of(width, rows)
        self.is_tuples(form)
        self.assertTrue(is_form(form), form)
        self.assertTrue(all(len(row) == width for row in form))
        for row in rows:
            self.assertTrue(in_form(form, row))
        turned = form_with(width, rows)
        self.assertIsInstance(turned, Turned)
        self.exactly(turned.form, form)
        self.is_tuples(turned.turning)
        self.assertEqual(len(turned.turning), len(form))
        for numbers, row in zip(turned.turning, form):
            self.assertEqual(len(numbers), len(rows))
            self.exactly(total(width, rows, numbers), row)
            self.exactly(sum_rows(width, rows, numbers), row)
        return form

    def test_example(self):
        self.exactly(form_of(2, EXAMPLE), ((2, 0), (0, 6)))
        self.exactly(self.check_form(2, [[6, 6], [4, 6]]), ((2, 0), (0, 6)))

    def test_small_forms(self):
        self.exactly(form_of(3, ()), ())
        self.exactly(form_of(0, ()), ())
        self.exactly(form_of(0, [(), ()]), ())
        self.exactly(form_of(2, [(0, 0), (0, 0)]), ())
        self.exactly(form_of(1, [[-6], [4]]), ((2,),))
        self.exactly(form_of(2, [(0, -3)]), ((0, 3),))
        self.exactly(form_of(2, [(5, 7), (0, 3)]), ((5, 1), (0, 3)))
        self.exactly(form_of(2, [(5, -1), (0, 3)]), ((5, 2), (0, 3)))
        self.exactly(form_of(3, [(0, 2, 1), (4, 0, 0)]), ((4, 0, 0), (0, 2, 1)))
        self.exactly(form_of(3, [(-1, 5, 9), (0, 0, 4)]), ((1, -5, 3), (0, 0, 4)))

    def test_forms_of_many_lots(self):
        for width, rows in some_lots(72):
            self.check_form(width, rows)

    def test_turned_without_rows(self):
        self.assertTrue(form_with(3, ()) == Turned((), ()))
        self.assertTrue(form_with(3, [(0, 0, 0)]) == Turned((), ()))
        self.assertTrue(form_with(1, [[7]]) == Turned(((7,),), ((1,),)))
        self.assertTrue(form_with(1, [[-7]]) == Turned(((7,),), ((-1,),)))

    def test_each_lot_has_one_form(self):
        chances = a_random(73)
        for width, rows in some_lots(73):
            form = form_of(width, rows)
            mixed = list(rows)
            for _ in range(6):
                if len(mixed) >= 2:
                    here, there = chances.sample(range(len(mixed)), 2)
                    times = chances.randint(-3, 3)
                    mixed[here] = [a + times * b for a, b in zip(mixed[here], mixed[there])]
            chances.shuffle(mixed)
            mixed = [[-a for a in row] if chances.random() < 0.5 else row for row in mixed]
            self.exactly(form_of(width, mixed), form)
            self.exactly(form_of(width, form), form)

    def test_rows_with_leads_behind_a_place_make_the_rows_with_zeros_before_it(self):
        for width, rows in some_lots(74, sizes=((2, 2), (3, 3)), bounds=(3, 9)):
            form = form_of(width, rows)
            for place in range(width + 1):
                late = [row for row in form if lead(row) >= place]
                for row in box(width, 4):
                    if not any(row[:place]):
                        self.assertIs(in_form(late, row), in_form(form, row))

    def test_edges(self):
        chances = a_random(75)
        self.check_form(40, ())
        self.check_form(40, [[0] * 40] * 40)
        self.check_form(40, [[1 if k == at else 0 for k in range(40)] for at in range(40)])
        self.check_form(40, random_rows(chances, 40, 5, 9))
        self.check_form(3, random_rows(chances, 3, 40, 9))
        self.exactly(form_of(1, [[10 ** 299], [10 ** 298 * 3]]), ((10 ** 298,),))
        self.exactly(form_of(2, [(10 ** 299, 1), (0, 10 ** 290)]), ((10 ** 299, 1), (0, 10 ** 290)))

    @in_good_time
    def test_good_time_at_the_limits(self):
        chances = a_random(76)
        for width, many, bound in ((6, 16, 10 ** 100 - 1), (12, 12, 10 ** 9 - 1), (6, 40, 9),
                                   (6, 6, 10 ** 100 - 1)):
            rows = random_rows(chances, width, many, bound)
            for rows in (rows, [[n - n % 6 for n in row] for row in rows],
                         bound_rows(chances, width, many, bound // 40 + 1)):
                form = self.check_form(width, rows)
                row = rows[0]
                numbers = numbers_for(width, rows, row)
                self.exactly(total(width, rows, numbers), tuple(row))
                self.assertIs(holds_row(width, rows, row), True)
                self.assertIs(holds_row(width, rows, [1] * width), in_form(form, [1] * width))


class TestRest(Case):
    def test_example(self):
        self.exactly(rest_of(2, EXAMPLE, [7, 8]), (1, 2))
        self.exactly(rest_of(2, EXAMPLE, (-1, -1)), (1, 5))
        self.exactly(rest_of(2, (), [7, 8]), (7, 8))
        self.exactly(rest_of(0, [()], ()), ())

    def test_one_rest_for_each_class(self):
        for width, rows in some_lots(77, sizes=((1, 3), (2, 2), (3, 3), (3, 1)), bounds=(1, 3, 9)):
            form = form_of(width, rows)
            for row in box(width, 3):
                rest = rest_of(width, rows, row)
                self.is_tuples(rest)
                for known in form:
                    self.assertIn(rest[lead(known)], range(known[lead(known)]))
                self.assertTrue(in_form(form, [a - b for a, b in zip(row, rest)]))
                self.assertIs(holds_row(width, rows, row), in_form(form, row))
                self.assertIs(not any(rest), in_form(form, row))

    def test_same_rest_exactly_if_the_difference_is_in_the_lot(self):
        for width, rows in some_lots(78, sizes=((2, 2), (2, 1)), bounds=(3,)):
            rests = {row: rest_of(width, rows, row) for row in box(width, 2)}
            for one in rests:
                for other in rests:
                    inside = holds_row(width, rows, [a - b for a, b in zip(one, other)])
                    self.assertIs(rests[one] == rests[other], inside)

    def test_holds_row(self):
        self.assertIs(holds_row(2, EXAMPLE, (2, 0)), True)
        self.assertIs(holds_row(2, EXAMPLE, [2, 6]), True)
        self.assertIs(holds_row(2, EXAMPLE, (1, 0)), False)
        self.assertIs(holds_row(2, EXAMPLE, (2, 3)), False)
        self.assertIs(holds_row(2, (), (0, 0)), True)
        self.assertIs(holds_row(2, (), (0, 1)), False)
        self.assertIs(holds_row(0, (), ()), True)


class TestNumbersFor(Case):
    def test_agrees_with_holds_row(self):
        for width, rows in some_lots(79):
            form = form_of(width, rows)
            for row in box(width, 2) + list(rows):
                numbers = numbers_for(width, rows, row)
                self.assertIs(numbers is not None, in_form(form, row))
                self.assertIs(holds_row(width, rows, row), in_form(form, row))
                if numbers is not None:
                    self.is_tuples(numbers)
                    self.assertEqual(len(numbers), len(rows))
                    self.exactly(sum_rows(width, rows, numbers), tuple(row))

    def test_edges(self):
        self.exactly(numbers_for(3, (), (0, 0, 0)), ())
        self.assertIsNone(numbers_for(3, (), (0, 1, 0)))
        self.exactly(numbers_for(0, (), ()), ())
        self.assertEqual(len(numbers_for(0, [(), ()], ())), 2)
        self.assertIsNone(numbers_for(1, [[2]], [1]))
        self.exactly(numbers_for(1, [[10 ** 150]], [-10 ** 299]), (-10 ** 149,))


class TestTurned(Case):
    def test_a_result(self):
        turned = Turned([1], None)
        self.assertEqual((turned.form, turned.turning), ([1], None))
        self.assertTrue(turned == Turned([1], None))
        for other in (Turned((1,), None), Turned([1], ()), None, ([1], None), object()):
            self.assertFalse(turned == other)
            self.assertTrue(turned != other)


if __name__ == "__main__":
    unittest.main()
