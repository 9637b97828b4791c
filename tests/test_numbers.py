"""Whole numbers [0.1, 0.6] and what counts as a sequence."""

import enum
import unittest

from sheetproofs.numbers import common_divisor, common_multiple, is_whole, power_of
from tests.helpers import NO_WHOLES, Case


class TestIsWhole(Case):
    def test_integers_of_any_size(self):
        for number in (0, 1, -1, 10 ** 300, -10 ** 300):
            self.assertIs(is_whole(number), True)

    def test_bools_and_other_things_are_none(self):
        for thing in NO_WHOLES:
            self.assertIs(is_whole(thing), False, thing)
            self.assertIs(is_whole(thing, 0), False, thing)
            self.assertIs(is_whole(thing, None, 9), False, thing)
            self.assertIs(is_whole(thing, -5, 5), False, thing)

    def test_bounds_belong_to_the_span(self):
        self.assertIs(is_whole(3, 3, 5), True)
        self.assertIs(is_whole(5, 3, 5), True)
        self.assertIs(is_whole(2, 3, 5), False)
        self.assertIs(is_whole(6, 3, 5), False)

    def test_a_bound_that_is_none_is_left_out(self):
        self.assertIs(is_whole(-10 ** 9, None, 5), True)
        self.assertIs(is_whole(6, None, 5), False)
        self.assertIs(is_whole(10 ** 9, 3, None), True)
        self.assertIs(is_whole(2, 3), False)
        self.assertIs(is_whole(0, 0), True)
        self.assertIs(is_whole(-1, 0), False)
        self.assertIs(is_whole(0, None, 0), True)
        self.assertIs(is_whole(1, None, 0), False)

    def test_an_int_of_a_class_below_is_one(self):
        class Step(enum.IntEnum):
            ONE = 1
        self.assertIs(is_whole(Step.ONE, 1, 1), True)

    def test_bounds_by_name(self):
        self.assertIs(is_whole(4, low=4, high=4), True)
        self.assertIs(is_whole(thing=4, high=3), False)


class TestDivisors(Case):
    def test_common_divisor(self):
        for one in range(-12, 13):
            for other in range(-12, 13):
                found = common_divisor(one, other)
                both = [k for k in range(1, 13) if one % k == 0 and other % k == 0]
                wanted = 0 if one == 0 and other == 0 else max(both)
                self.assertEqual(found, wanted)
        self.assertEqual(common_divisor(6 * 10 ** 200, 4 * 10 ** 199), 4 * 10 ** 199)

    def test_common_multiple(self):
        for one in range(-12, 13):
            for other in range(-12, 13):
                found = common_multiple(one, other)
                if one == 0 or other == 0:
                    self.assertEqual(found, 0)
                else:
                    wanted = min([k for k in range(1, 145) if k % one == 0 and k % other == 0])
                    self.assertEqual(found, wanted)
        self.assertEqual(common_multiple(-6, 10 ** 100), 3 * 10 ** 100)

    def test_power_of(self):
        self.assertEqual(power_of(0, 0), 1)
        self.assertEqual(power_of(0, 5), 0)
        for base in range(-4, 5):
            result = 1
            for exponent in range(0, 40):
                self.assertEqual(power_of(base, exponent), result)
                result *= base

    def test_power_of_great_exponents(self):
        self.assertEqual(power_of(1, 10 ** 30), 1)
        self.assertEqual(power_of(-1, 10 ** 30), 1)
        self.assertEqual(power_of(-1, 10 ** 30 + 1), -1)
        self.assertEqual(power_of(0, 10 ** 30), 0)
        self.assertEqual(power_of(10, 300), int("1" + "0" * 300))


if __name__ == "__main__":
    unittest.main()
