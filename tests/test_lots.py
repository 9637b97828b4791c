"""Lots put together, cut down and compared [4.8 to 4.10]."""

import unittest

from sheetproofs.errors import BadPlace, BadRow, BadRows, BadTimes, BadWidth, NotWithin
from sheetproofs.forms import form_of
from sheetproofs.lots import (Fold, fold_in, holds_lot, let_go, lot_where, meet_lot, plus_lot, same_lot,
                              size_within, times_into)
from tests.helpers import NO_WHOLES, Case, a_random, in_good_time
from tests.lattices import (bound_rows, box, dot, in_form, is_form, lead, random_rows, some_lots, total)
from tests.test_forms import BAD_ROWS, BAD_WIDTHS, EXAMPLE, NO_ROWS

SMALL = ((0, 2), (1, 2), (2, 1), (2, 2), (2, 3), (3, 1), (3, 2), (3, 3))


def pairs_of_lots(seed, bounds=(1, 3, 6)):
    """Return triples (width, one, other)."""
    lots = some_lots(seed, SMALL, bounds)
    others = some_lots(seed + 1000, SMALL, bounds)
    triples = [(width, one, other) for (width, one), (_, other) in zip(lots, others)]
    return triples + [(width, one, []) for width, one in lots[::7]] + [(3, (), ()), (0, (), ())]


class TestPlusAndMeet(Case):
    def test_plus(self):
        self.exactly(plus_lot(2, [[4, 6]], ((6, 6),)), ((2, 0), (0, 6)))
        for width, one, other in pairs_of_lots(91):
            found = plus_lot(width, one, other)
            self.exactly(found, form_of(width, list(one) + list(other)))

    def test_two_lists_of_40_rows(self):
        chances = a_random(92)
        one = random_rows(chances, 3, 40, 9)
        other = random_rows(chances, 3, 40, 9)
        found = plus_lot(3, one, other)
        self.assertTrue(is_form(found))
        self.assertTrue(all(in_form(found, row) for row in list(one) + list(other)))
        units = [[1 if k == at else 0 for k in range(40)] for at in range(40)]
        self.exactly(plus_lot(40, [[4 * n for n in row] for row in units],
                              [[6 * n for n in row] for row in units]),
                     tuple(tuple(2 * n for n in row) for row in units))
        self.exactly(meet_lot(40, [[4 * n for n in row] for row in units],
                              [[6 * n for n in row] for row in units]),
                     tuple(tuple(12 * n for n in row) for row in units))

    def test_meet(self):
        self.exactly(meet_lot(1, [[4]], [[6]]), ((12,),))
        self.exactly(meet_lot(2, [(1, 0)], [(0, 1)]), ())
        self.exactly(meet_lot(2, EXAMPLE, [(1, 1)]), ((6, 6),))
        for width, one, other in pairs_of_lots(93):
            found = meet_lot(width, one, other)
            self.is_tuples(found)
            self.assertTrue(is_form(found))
            first, second = form_of(width, one), form_of(width, other)
            self.assertTrue(all(in_form(first, row) and in_form(second, row) for row in found))
            for row in box(width, 6 if width < 3 else 4):
                self.assertIs(in_form(found, row), in_form(first, row) and in_form(second, row))

    def test_sizes_of_plus_and_meet(self):
        for width, one, other in pairs_of_lots(94, (9, 50)):
            meet, plus = meet_lot(width, one, other), plus_lot(width, one, other)
            self.assertEqual(size_within(width, one, plus), size_within(width, meet, other))


class TestLotWhere(Case):
    def test_small(self):
        self.exactly(lot_where(2, EXAMPLE, [(1, -1)]), ((6, 6),))
        self.exactly(lot_where(2, EXAMPLE, ()), ((2, 0), (0, 6)))
        self.exactly(lot_where(2, (), [(1, 1)]), ())
        self.exactly(lot_where(2, [(1, 0), (0, 1)], [(1, 2), (2, 4)]), ((2, -1),))
        self.exactly(lot_where(0, [()], [()]), ())

    def test_just_the_rows_that_all_conditions_sum_to_zero(self):
        for width, rows, conditions in pairs_of_lots(95):
            found = lot_where(width, rows, conditions)
            self.is_tuples(found)
            self.assertTrue(is_form(found))
            form = form_of(width, rows)
            for row in found:
                self.assertTrue(in_form(form, row))
                self.assertFalse(any(dot(row, condition) for condition in conditions))
            for row in box(width, 6 if width < 3 else 4):
                inside = in_form(form, row) and not any(dot(row, asked) for asked in conditions)
                self.assertIs(in_form(found, row), inside)


class TestLetGo(Case):
    def test_small(self):
        self.exactly(let_go(2, EXAMPLE, 0), ((2, 0), (0, 6)))
        self.exactly(let_go(2, EXAMPLE, 1), ((0, 6),))
        self.exactly(let_go(2, EXAMPLE, 2), ())
        self.exactly(let_go(0, (), 0), ())

    def test_rows_with_zeros_first(self):
        for width, rows in some_lots(96, SMALL, (3, 9)):
            form = form_of(width, rows)
            for place in range(width + 1):
                found = let_go(width, rows, place)
                self.is_tuples(found)
                self.assertTrue(is_form(found))
                for row in box(width, 3):
                    self.assertIs(in_form(found, row), in_form(form, row) and not any(row[:place]))
                self.exactly(found, tuple(row for row in form if lead(row) >= place))

    def test_bad_places(self):
        for thing in NO_WHOLES + (-1, 3, 10 ** 30):
            self.refused(BadPlace, {}, let_go, 2, EXAMPLE, thing)
        self.refused(BadPlace, {}, let_go, 0, (), 1)


class TestCompared(Case):
    def test_holds_and_same(self):
        self.assertIs(holds_lot(2, EXAMPLE, [(2, 0), (2, 6)]), True)
        self.assertIs(holds_lot(2, EXAMPLE, [(2, 0), (1, 0)]), False)
        self.assertIs(holds_lot(2, [(2, 0), (4, 0)], EXAMPLE), False)
        self.assertIs(holds_lot(2, (), ()), True)
        self.assertIs(holds_lot(2, (), [(0, 0)]), True)
        self.assertIs(same_lot(2, EXAMPLE, [(0, 6), (2, 0), (2, 6)]), True)
        self.assertIs(same_lot(2, EXAMPLE, [(2, 0)]), False)
        self.assertIs(same_lot(2, [(2, 0)], EXAMPLE), False)
        for width, one, other in pairs_of_lots(97, (1, 2)):
            first, second = form_of(width, one), form_of(width, other)
            inside = all(in_form(first, row) for row in other)
            outside = all(in_form(second, row) for row in one)
            self.assertIs(holds_lot(width, one, other), inside)
            self.assertIs(same_lot(width, one, other), inside and outside)
            self.assertIs(same_lot(width, one, list(first) + [[0] * width]), True)

    def test_size_within_example(self):
        self.exactly(size_within(2, EXAMPLE, [(1, 0), (0, 1)]), 12)
        self.exactly(size_within(2, EXAMPLE, EXAMPLE), 1)
        self.exactly(size_within(2, (), [(0, 0)]), 1)
        self.assertIsNone(size_within(2, (), EXAMPLE))
        self.assertIsNone(size_within(2, [(2, 0)], EXAMPLE))
        self.exactly(size_within(3, [(0, 4, 6)], [(0, 2, 3)]), 2)
        self.exactly(size_within(0, (), [()]), 1)

    def test_size_within_counts_classes(self):
        chances = a_random(98)
        for width, outer in some_lots(98, ((1, 1), (1, 2), (2, 1), (2, 2), (3, 2)), (1, 3)):
            around = form_of(width, outer)
            if not around:
                continue
            inner = [total(width, around, [chances.randint(-2, 2) for _ in around]) for _ in range(3)]
            form = form_of(width, inner)
            found = size_within(width, inner, outer)
            if len(form) < len(around):
                self.assertIsNone(found)
                continue
            # Sums of the outer rows with all small numbers meet every class.
            classes = []
            for numbers in box(len(around), 8 if len(around) < 3 else 4):
                row = total(width, around, numbers)
                if not any(in_form(form, [a - b for a, b in zip(row, known)]) for known in classes):
                    classes.append(row)
            self.exactly(found, len(classes))

    def test_not_within(self):
        self.refused(NotWithin, {"index": 0}, size_within, 2, [(1, 0), (0, 1)], EXAMPLE)
        self.refused(NotWithin, {"index": 1}, size_within, 2, [(2, 0), (0, 3), (1, 1)], EXAMPLE)
        self.refused(NotWithin, {"index": 2}, size_within, 2, ((0, 0), (2, 6), (1, 6)), EXAMPLE)
        self.refused(NotWithin, {"index": 0}, size_within, 2, [(1, 0)], ())
        self.refused(BadRows, {"index": 0}, size_within, 2, [(1, 0)], [None])


class TestTimesInto(Case):
    def test_small(self):
        self.exactly(times_into(2, EXAMPLE, (2, 0)), 1)
        self.exactly(times_into(2, EXAMPLE, [1, 0]), 2)
        self.exactly(times_into(2, EXAMPLE, (1, 1)), 6)
        self.exactly(times_into(2, EXAMPLE, (0, 0)), 1)
        self.assertIsNone(times_into(2, [(2, 0)], (0, 1)))
        self.assertIsNone(times_into(2, (), (1, 0)))
        self.exactly(times_into(2, (), (0, 0)), 1)
        self.exactly(times_into(0, (), ()), 1)
        self.exactly(times_into(1, [[10 ** 299]], [10 ** 9]), 10 ** 290)

    def test_least(self):
        for width, rows in some_lots(99, SMALL, (1, 3, 6)):
            form = form_of(width, rows)
            most = 1
            for row in form:
                most *= row[lead(row)]
            for row in box(width, 2):
                wanted = None
                for times in range(1, most + 1):
                    if in_form(form, [times * n for n in row]):
                        wanted = times
                        break
                found = times_into(width, rows, row)
                self.assertEqual(found, wanted)
                self.assertNotIsInstance(found, bool)


class FoldCase(Case):
    def check_fold(self, width, rows, row, times):
        """Check that a fold adds up, and tell whether there is one."""
        found = fold_in(width, rows, row, times)
        if found is None:
            return False
        self.assertIsInstance(found, Fold)
        self.is_tuples((found.row, found.numbers))
        self.assertEqual((len(found.row), len(found.numbers)), (width, len(rows)))
        added = total(width, rows, found.numbers)
        self.exactly(tuple(times * a + b for a, b in zip(found.row, added)), tuple(row))
        return True


class TestFoldIn(FoldCase):
    def test_exactly_if_there_is_one(self):
        for width, rows in some_lots(100, SMALL, (1, 3, 9)):
            for times in (1, 2, 3, 4, 6):
                units = [[times if k == at else 0 for k in range(width)] for at in range(width)]
                form = form_of(width, list(rows) + units)
                for row in box(width, 2):
                    self.assertIs(self.check_fold(width, rows, row, times), in_form(form, row))

    def test_small(self):
        self.assertTrue(self.check_fold(2, EXAMPLE, [1, 1], 1))
        self.assertFalse(self.check_fold(2, EXAMPLE, [1, 1], 2))
        self.assertTrue(self.check_fold(2, EXAMPLE, [2, 2], 4))
        self.assertTrue(fold_in(2, (), (6, -9), 3) == Fold((2, -3), ()))
        self.assertIsNone(fold_in(2, (), (6, -8), 3))
        self.assertTrue(fold_in(0, (), (), 5) == Fold((), ()))
        self.assertTrue(self.check_fold(0, [(), ()], (), 5))

    def test_great_times(self):
        chances = a_random(101)
        for times in (10 ** 30, 10 ** 99 + 7, 10 ** 299):
            rows = random_rows(chances, 3, 4, 10 ** 20)
            row = [times * a + b for a, b in zip((5, -7, 11), total(3, rows, (1, -2, 3, 10 ** 9)))]
            self.assertTrue(self.check_fold(3, rows, row, times))

    def test_bad_times(self):
        for thing in NO_WHOLES + (0, -1, -10 ** 30):
            self.refused(BadTimes, {}, fold_in, 2, EXAMPLE, (1, 1), thing)

    def test_a_result(self):
        fold = Fold([1], None)
        self.assertEqual((fold.row, fold.numbers), ([1], None))
        self.assertTrue(fold == Fold([1], None))
        for other in (Fold((1,), None), Fold([1], ()), None, ([1], None), object()):
            self.assertFalse(fold == other)
            self.assertTrue(fold != other)


class TestErrors(Case):
    def test_width(self):
        for thing in BAD_WIDTHS:
            for function in (plus_lot, meet_lot, lot_where, let_go, holds_lot, same_lot, size_within,
                             times_into):
                self.refused(BadWidth, {}, function, thing, None, None)
            self.refused(BadWidth, {}, fold_in, thing, None, None, None)

    def test_rows(self):
        for rows, index in BAD_ROWS:
            told = {"index": index}
            for function in (plus_lot, meet_lot, lot_where, holds_lot, same_lot, size_within):
                self.refused(BadRows, told, function, 2, rows, None)
                self.refused(BadRows, told, function, 2, EXAMPLE, rows)
            self.refused(BadRows, told, let_go, 2, rows, None)
            self.refused(BadRows, told, times_into, 2, rows, None)
            self.refused(BadRows, told, fold_in, 2, rows, None, None)

    def test_row(self):
        for thing in NO_ROWS:
            self.refused(BadRow, {}, times_into, 2, EXAMPLE, thing)
            self.refused(BadRow, {}, fold_in, 2, EXAMPLE, thing, None)

    def test_nothing_passed_in_is_changed(self):
        one, other = [[4, 6], [6, 6]], [[2, 0], [2, 6]]
        for function in (plus_lot, meet_lot, lot_where, holds_lot, same_lot, size_within):
            function(2, one, other)
        fold_in(2, one, other[0], 3)
        times_into(2, one, other[0])
        self.assertEqual((one, other), ([[4, 6], [6, 6]], [[2, 0], [2, 6]]))


class TestGoodTime(FoldCase):
    @in_good_time
    def test_at_the_limits(self):
        chances = a_random(102)
        for width, many, bound in ((6, 16, 10 ** 100 - 1), (12, 12, 10 ** 9 - 1), (6, 40, 9)):
            rows = random_rows(chances, width, many, bound)
            for one in (rows, [[n - n % 6 for n in row] for row in rows],
                        bound_rows(chances, width, many, bound // 40 + 1)):
                other = random_rows(chances, width, many, bound)
                few = other[:width // 2]
                form = form_of(width, one)
                plus, meet = plus_lot(width, one, other), meet_lot(width, one, other)
                self.assertTrue(is_form(plus) and is_form(meet))
                self.assertTrue(all(in_form(form, row) for row in meet))
                where = lot_where(width, one, few)
                self.assertFalse(any(dot(row, asked) for row in where for asked in few))
                self.assertTrue(all(in_form(form, row) for row in where))
                self.exactly(lot_where(width, one, other), ())
                self.assertIs(holds_lot(width, plus, one), True)
                self.assertIs(same_lot(width, one, form), True)
                self.assertIsNotNone(size_within(width, other, plus))
                times = times_into(width, one, other[0])
                if times is not None:
                    self.assertTrue(in_form(form, [times * n for n in other[0]]))
                self.assertTrue(self.check_fold(width, one, one[0], 10 ** 99))
                self.check_fold(width, one, other[0], 6)


if __name__ == "__main__":
    unittest.main()
