"""Readings [4.11 to 4.13]."""

import unittest
from itertools import product

from sheetproofs.errors import BadModulus, BadReading, BadRow, BadRows, BadWidth
from sheetproofs.forms import form_of
from sheetproofs.lots import fold_in
from sheetproofs.readings import Reading, count_readings, reading_apart, reading_modulo
from tests.helpers import NO_SEQUENCES, NO_WHOLES, Case, a_random, in_good_time
from tests.lattices import bound_rows, box, dot, in_form, random_rows, some_lots
from tests.test_forms import BAD_ROWS, BAD_WIDTHS, EXAMPLE, NO_ROWS

SMALL = ((0, 0), (0, 2), (1, 1), (1, 2), (2, 0), (2, 1), (2, 2), (2, 3), (3, 1), (3, 2), (3, 3))
BAD_MODULI = NO_WHOLES + (1, 0, -1, -2, -10 ** 30)


class TestReading(Case):
    def test_attributes_and_equality(self):
        reading = Reading(5, [0, 4, 1])
        self.exactly((reading.modulus, reading.numbers), (5, (0, 4, 1)))
        self.assertTrue(reading == Reading(5, (0, 4, 1)))
        for other in (Reading(6, (0, 4, 1)), Reading(5, (0, 4, 2)), Reading(5, (0, 4)), None, 5,
                      (5, (0, 4, 1)), object()):
            self.assertFalse(reading == other)
            self.assertTrue(reading != other)

    def test_what_it_reads(self):
        self.exactly(Reading(5, (0, 4, 1))([7, 2, -1]), 2)
        self.exactly(Reading(2, ())(()), 0)
        self.exactly(Reading(10 ** 40, (1, 10 ** 40 - 1))((3, 10 ** 50 + 4)), 10 ** 40 - 1)
        chances = a_random(201)
        for _ in range(50):
            modulus, width = chances.randint(2, 12), chances.randint(0, 6)
            numbers = [chances.randrange(modulus) for _ in range(width)]
            row = [chances.randint(-50, 50) for _ in range(width)]
            found = Reading(modulus, numbers)(row)
            self.exactly(found, dot(numbers, row) % modulus)

    def test_40_numbers_are_let(self):
        self.exactly(Reading(2, [1] * 40)((1,) * 40), 0)
        self.refused(BadReading, {"what": "numbers"}, Reading, 2, [1] * 41)

    def test_bad_modulus(self):
        for thing in BAD_MODULI:
            self.refused(BadReading, {"what": "modulus"}, Reading, thing, (0,))
            self.refused(BadReading, {"what": "modulus"}, Reading, thing, None)

    def test_bad_numbers(self):
        for thing in NO_SEQUENCES + ([0, 5], (0, -1), (5,)) + tuple([0, wrong] for wrong in NO_WHOLES):
            self.refused(BadReading, {"what": "numbers"}, Reading, 5, thing)

    def test_bad_rows(self):
        for thing in NO_ROWS:
            self.refused(BadRow, {}, Reading(5, (1, 2)), thing)
        self.refused(BadRow, {}, Reading(5, ()), (0,))

    def refused(self, error, attributes, function, *args):
        if isinstance(function, Reading):
            super().refused(error, attributes, lambda row: function(row), *args)
        else:
            super().refused(error, attributes, function, *args)

    def test_later_changes_have_no_effect(self):
        numbers, row = [1, 2], [3, 4]
        reading = Reading(7, numbers)
        numbers[0] = 0
        self.exactly(reading(row), 4)
        self.assertEqual((reading.numbers, row), ((1, 2), [3, 4]))


class ReadingCase(Case):
    def check_reading(self, reading, width, rows, row):
        """Check that a reading reads 0 at the rows and not 0 at the row."""
        self.assertIsInstance(reading, Reading)
        self.is_tuples((reading.modulus, reading.numbers))
        self.assertEqual(len(reading.numbers), width)
        self.assertGreaterEqual(reading.modulus, 2)
        self.assertTrue(all(0 <= number < reading.modulus for number in reading.numbers))
        self.assertFalse(any(dot(known, reading.numbers) % reading.modulus for known in rows))
        self.assertNotEqual(dot(row, reading.numbers) % reading.modulus, 0)


class TestReadingApart(ReadingCase):
    def test_small(self):
        self.assertIsNone(reading_apart(2, EXAMPLE, [2, 6]))
        self.assertIsNone(reading_apart(0, (), ()))
        self.assertIsNone(reading_apart(2, (), (0, 0)))
        self.check_reading(reading_apart(2, EXAMPLE, [1, 0]), 2, EXAMPLE, (1, 0))
        self.check_reading(reading_apart(1, (), [720720]), 1, (), (720720,))
        self.check_reading(reading_apart(2, [[0, 1]], (10 ** 299, 0)), 2, [(0, 1)], (10 ** 299, 0))

    def test_exactly_if_the_row_is_not_in_the_lot(self):
        for width, rows in some_lots(202, SMALL, (1, 3, 9)):
            form = form_of(width, rows)
            for row in box(width, 3):
                found = reading_apart(width, rows, row)
                if in_form(form, row):
                    self.assertIsNone(found)
                else:
                    self.check_reading(found, width, rows, row)

    def test_errors(self):
        for thing in BAD_WIDTHS:
            self.refused(BadWidth, {}, reading_apart, thing, None, None)
        for rows, index in BAD_ROWS:
            self.refused(BadRows, {"index": index}, reading_apart, 2, rows, None)
        for thing in NO_ROWS:
            self.refused(BadRow, {}, reading_apart, 2, EXAMPLE, thing)

    def test_nothing_passed_in_is_changed(self):
        rows, row = [[4, 6], [6, 6]], [1, 0]
        reading_apart(2, rows, row)
        reading_modulo(2, rows, row, 6)
        count_readings(2, rows, 6)
        self.assertEqual((rows, row), ([[4, 6], [6, 6]], [1, 0]))


class TestReadingModulo(ReadingCase):
    def test_small(self):
        for modulus, wanted in ((2, True), (3, False), (4, True), (5, False), (6, True)):
            found = reading_modulo(2, EXAMPLE, [1, 0], modulus)
            self.assertIs(found is not None, wanted)
        self.assertIsNone(reading_modulo(0, [()], [], 2))
        self.assertTrue(reading_modulo(1, (), (1,), 2) == Reading(2, (1,)))
        self.check_reading(reading_modulo(1, [[6]], [2], 10 ** 40 + 2), 1, [[6]], [2])

    def test_exactly_if_there_is_no_fold(self):
        for width, rows in some_lots(203, SMALL, (1, 3, 9)):
            for modulus in (2, 3, 4, 6, 9, 12):
                for row in box(width, 2):
                    found = reading_modulo(width, rows, row, modulus)
                    if fold_in(width, rows, row, modulus) is not None:
                        self.assertIsNone(found)
                    else:
                        self.check_reading(found, width, rows, row)
                        self.assertEqual(found.modulus, modulus)

    def test_against_all_readings(self):
        for width, rows in some_lots(204, ((1, 1), (2, 1), (2, 2), (3, 2)), (2, 6)):
            for modulus in (2, 4, 6):
                kept = [numbers for numbers in product(range(modulus), repeat=width)
                        if not any(dot(known, numbers) % modulus for known in rows)]
                for row in box(width, 2):
                    apart = any(dot(row, numbers) % modulus for numbers in kept)
                    self.assertIs(reading_modulo(width, rows, row, modulus) is not None, apart)

    def test_errors(self):
        for thing in BAD_WIDTHS:
            self.refused(BadWidth, {}, reading_modulo, thing, None, None, None)
        for rows, index in BAD_ROWS:
            self.refused(BadRows, {"index": index}, reading_modulo, 2, rows, None, None)
        for thing in NO_ROWS:
            self.refused(BadRow, {}, reading_modulo, 2, EXAMPLE, thing, None)
        for thing in BAD_MODULI:
            self.refused(BadModulus, {}, reading_modulo, 2, EXAMPLE, (1, 0), thing)


class TestCountReadings(Case):
    def test_example(self):
        self.exactly(count_readings(2, EXAMPLE, 4), 4)
        self.exactly(count_readings(2, EXAMPLE, 5), 1)
        self.exactly(count_readings(2, [[4, 6], (6, 6)], 12), 12)

    def test_edges(self):
        self.exactly(count_readings(0, (), 7), 1)
        self.exactly(count_readings(3, (), 7), 343)
        self.exactly(count_readings(2, [(0, 0), (0, 3)], 9), 27)
        self.exactly(count_readings(40, (), 10 ** 7), 10 ** 280)

    def test_against_all_readings(self):
        for width, rows in some_lots(205, SMALL, (1, 3, 9)):
            for modulus in (2, 3, 4, 6, 8):
                wanted = sum(not any(dot(row, numbers) % modulus for row in rows)
                             for numbers in product(range(modulus), repeat=width))
                self.exactly(count_readings(width, rows, modulus), wanted)

    def test_errors(self):
        for thing in BAD_WIDTHS:
            self.refused(BadWidth, {}, count_readings, thing, None, None)
        for rows, index in BAD_ROWS:
            self.refused(BadRows, {"index": index}, count_readings, 2, rows, None)
        for thing in BAD_MODULI:
            self.refused(BadModulus, {}, count_readings, 2, EXAMPLE, thing)


class TestGoodTime(ReadingCase):
    @in_good_time
    def test_at_the_limits(self):
        chances = a_random(206)
        for width, many, bound in ((6, 16, 10 ** 100 - 1), (12, 12, 10 ** 9 - 1), (6, 40, 9)):
            rows = random_rows(chances, width, many, bound)
            for one in (rows, [[n - n % 6 for n in row] for row in rows],
                        bound_rows(chances, width, many, bound // 40 + 1)):
                row = random_rows(chances, width, 1, bound)[0]
                found = reading_apart(width, one, row)
                if found is not None:
                    self.check_reading(found, width, one, row)
                for modulus in (6, 10 ** 99):
                    found = reading_modulo(width, one, row, modulus)
                    self.assertIs(found is None, fold_in(width, one, row, modulus) is not None)
                    if found is not None:
                        self.check_reading(found, width, one, row)
                    self.assertGreaterEqual(count_readings(width, one, modulus), 1)


if __name__ == "__main__":
    unittest.main()
