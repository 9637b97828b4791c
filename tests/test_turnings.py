"""Elementary numbers and relations [4.6, 4.7]."""

import unittest
from itertools import combinations
from math import gcd

from sheetproofs.errors import BadRows, BadWidth
from sheetproofs.forms import form_of, sum_rows
from sheetproofs.turnings import Elementary, elementary_rows, relations_of
from tests.helpers import Case, a_random, in_good_time
from tests.lattices import (bound_rows, box, determinant, in_form, is_form, multiplied, random_rows,
                            some_lots, total)
from tests.test_forms import BAD_ROWS, BAD_WIDTHS


def unit(many):
    """Return the table with 1 in each row at its own place."""
    return [[1 if k == at else 0 for k in range(many)] for at in range(many)]


def divisors_of_minors(width, rows):
    """Return the elementary numbers by the common divisors of all minors."""
    numbers, before = [], 1
    for size in range(1, width + 1):
        divisor = 0
        for chosen in combinations(rows, size):
            for places in combinations(range(width), size):
                divisor = gcd(divisor, determinant([[row[k] for k in places] for row in chosen]))
        numbers.append(divisor // before if divisor else 0)
        before = divisor or 1
        if divisor == 0:
            break
    return tuple(numbers + [0] * (width - len(numbers)))


class TestElementary(Case):
    def check_elementary(self, width, rows):
        """Check what point 4.6 says of the result."""
        found = elementary_rows(width, rows)
        self.assertIsInstance(found, Elementary)
        many = len(rows)
        self.is_tuples((found.numbers, found.left, found.right, found.left_back, found.right_back))
        self.assertEqual(len(found.numbers), width)
        for number, after in zip(found.numbers, found.numbers[1:]):
            self.assertTrue(after % number == 0 if number else after == 0, found.numbers)
        self.assertTrue(all(number >= 0 for number in found.numbers))
        self.assertFalse(any(found.numbers[many:]))
        for table, size in ((found.left, many), (found.left_back, many), (found.right, width),
                            (found.right_back, width)):
            self.assertEqual([len(row) for row in table], [size] * size)
        turned = multiplied(multiplied(found.left, rows, width), found.right, width)
        wanted = [[found.numbers[k] if k == at else 0 for k in range(width)] for at in range(many)]
        self.assertEqual(turned, wanted)
        self.assertEqual(multiplied(found.left, found.left_back, many), unit(many))
        self.assertEqual(multiplied(found.right, found.right_back, width), unit(width))
        return found.numbers

    def test_example(self):
        self.exactly(self.check_elementary(2, [(4, 6), (6, 6)]), (2, 6))

    def test_small(self):
        self.exactly(self.check_elementary(3, ()), (0, 0, 0))
        self.exactly(self.check_elementary(0, ()), ())
        self.exactly(self.check_elementary(0, [(), ()]), ())
        self.exactly(self.check_elementary(2, [(0, 0)]), (0, 0))
        self.exactly(self.check_elementary(1, [[-6]]), (6,))
        self.exactly(self.check_elementary(1, [[6], [-4]]), (2,))
        self.exactly(self.check_elementary(3, [[0, -6, 4]]), (2, 0, 0))
        self.exactly(self.check_elementary(2, [(2, 0), (0, 3)]), (1, 6))
        self.exactly(self.check_elementary(2, [(6, 0), (0, 4)]), (2, 12))
        self.exactly(self.check_elementary(3, [(6, 0, 0), (0, 10, 0), (0, 0, 15)]), (1, 30, 30))
        self.exactly(self.check_elementary(3, [(0, 0, 5), (0, 1, 0), (0, 0, 0)]), (1, 5, 0))
        self.exactly(self.check_elementary(2, [(2, 4), (4, 8), (6, 12)]), (2, 0))

    def test_against_minors(self):
        sizes = ((0, 3), (1, 0), (1, 3), (2, 2), (2, 4), (3, 1), (3, 3), (3, 4), (4, 4))
        for width, rows in some_lots(81, sizes, (1, 3, 9, 50)):
            self.exactly(self.check_elementary(width, rows), divisors_of_minors(width, rows))

    def test_all_rows_of_one_lot_have_the_same(self):
        chances = a_random(82)
        for width, rows in some_lots(82):
            numbers = self.check_elementary(width, rows)
            self.exactly(self.check_elementary(width, form_of(width, rows)), numbers)
            more = list(rows) + [total(width, rows, [chances.randint(-2, 2) for _ in rows])] * 2
            chances.shuffle(more)
            self.exactly(self.check_elementary(width, more), numbers)

    def test_diagonals(self):
        chances = a_random(83)
        for width in (3, 5, 8, 12):
            for _ in range(3):
                rows = [[0] * width for _ in range(width)]
                for at in range(width):
                    rows[at][at] = chances.choice((0, 1, 2, 4, 6, 12, 90, 2 ** 20, 3 ** 12, 997002999))
                chances.shuffle(rows)
                numbers = self.check_elementary(width, rows)
                product, wanted = 1, 1
                for number in numbers:
                    product *= number or 1
                for row in rows:
                    wanted *= max(row) or 1
                self.assertEqual(product, wanted)

    def test_edges(self):
        self.exactly(self.check_elementary(40, ()), (0,) * 40)
        self.exactly(self.check_elementary(40, unit(40)), (1,) * 40)
        chances = a_random(84)
        self.check_elementary(40, random_rows(chances, 40, 2, 9))
        self.check_elementary(1, random_rows(chances, 1, 40, 9))
        self.check_elementary(2, [(10 ** 299, 1), (7, 10 ** 299)])

    @in_good_time
    def test_good_time_at_the_limits(self):
        chances = a_random(85)
        for width, many, bound in ((6, 16, 10 ** 100 - 1), (12, 12, 10 ** 9 - 1), (6, 40, 9),
                                   (6, 6, 10 ** 100 - 1)):
            rows = random_rows(chances, width, many, bound)
            self.check_elementary(width, rows)
            self.check_elementary(width, [[n - n % 6 for n in row] for row in rows])
            self.check_elementary(width, bound_rows(chances, width, many, bound // 40 + 1))

    def test_errors(self):
        for thing in BAD_WIDTHS:
            self.refused(BadWidth, {}, elementary_rows, thing, None)
            self.refused(BadWidth, {}, relations_of, thing, None)
        for rows, index in BAD_ROWS:
            self.refused(BadRows, {"index": index}, elementary_rows, 2, rows)
            self.refused(BadRows, {"index": index}, relations_of, 2, rows)

    def test_nothing_passed_in_is_changed(self):
        rows = [[4, 6], [6, 6]]
        elementary_rows(2, rows)
        relations_of(2, rows)
        self.assertEqual(rows, [[4, 6], [6, 6]])

    def test_a_result(self):
        found = Elementary(1, 2, [3], 4, 5)
        self.assertEqual((found.numbers, found.left, found.right, found.left_back, found.right_back),
                         (1, 2, [3], 4, 5))
        self.assertTrue(found == Elementary(1, 2, [3], 4, 5))
        for other in (Elementary(0, 2, [3], 4, 5), Elementary(1, 0, [3], 4, 5), Elementary(1, 2, (3,), 4, 5),
                      Elementary(1, 2, [3], 0, 5), Elementary(1, 2, [3], 4, 0), None, object()):
            self.assertFalse(found == other)


class TestRelations(Case):
    def check_relations(self, width, rows):
        """Check that the relations are a form of rows that make zeros."""
        found = relations_of(width, rows)
        self.is_tuples(found)
        self.assertTrue(is_form(found))
        for numbers in found:
            self.assertEqual(len(numbers), len(rows))
            self.assertFalse(any(sum_rows(width, rows, numbers)))
        return found

    def test_small(self):
        self.exactly(relations_of(2, ()), ())
        self.exactly(relations_of(2, [(4, 6), (6, 6)]), ())
        self.exactly(relations_of(1, [[4], [6]]), ((3, -2),))
        self.exactly(relations_of(1, [[0]]), ((1,),))
        self.exactly(relations_of(0, [(), ()]), ((1, 0), (0, 1)))
        self.exactly(relations_of(2, [(1, 2), (2, 4), (3, 6)]), ((1, 1, -1), (0, 3, -2)))

    def test_all_relations(self):
        for width, rows in some_lots(86, ((0, 3), (1, 2), (1, 3), (2, 3), (2, 4), (3, 3), (3, 4)), (1, 3)):
            found = self.check_relations(width, rows)
            for numbers in box(len(rows), 3):
                self.assertIs(in_form(found, numbers), not any(total(width, rows, numbers)))

    @in_good_time
    def test_good_time_at_the_limits(self):
        chances = a_random(87)
        for width, many, bound in ((6, 16, 10 ** 100 - 1), (12, 12, 10 ** 9 - 1)):
            self.assertEqual(len(self.check_relations(width, random_rows(chances, width, many, bound))),
                             many - width)
            self.check_relations(width, bound_rows(chances, width, many, bound // 40))

    def test_edges(self):
        self.exactly(relations_of(40, unit(40)), ())
        self.assertEqual(len(self.check_relations(40, [[1] * 40] * 40)), 39)
        self.exactly(relations_of(3, [(0, 0, 0)] * 40), tuple(tuple(row) for row in unit(40)))


if __name__ == "__main__":
    unittest.main()
