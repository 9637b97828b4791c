"""Fields [3.1 to 3.3]."""

import unittest
from fractions import Fraction

from sheetproofs.errors import BadNumber, BadPrime, ByZero
from sheetproofs.fields import FractionField, RestField, is_prime, source_of, steps_of
from tests.helpers import NO_WHOLES, Case, a_random

PRIMES = (2, 3, 5, 7, 13, 101, 19997)
FIELD = FractionField()
FRACTIONS = [Fraction(top, bottom) for top in range(-4, 5) for bottom in (1, 2, 3, 4, 7)]
FRACTIONS += [Fraction(10 ** 299 + 1, 10 ** 298 + 3), Fraction(-7, 10 ** 299), Fraction(3 ** 600)]
NO_FRACTIONS = ((0, 2), (2, 4), (-2, 4), (1, 0), (0, 0), (1, -2), (-1, -1), [1, 2], (1,), (1, 2, 3), (),
                (True, 1), (1, True), (1.0, 2), ("1", "2"), (1, None), 1, 0, "1/2", None, True, 0.5,
                Fraction(1, 2), {1: 2}, (0, -1), (0, 3), ((1, 2), 1), (10 ** 300, 10 ** 299))


def told(fraction):
    """Return Python's fraction as a fraction of the package."""
    return fraction.numerator, fraction.denominator


class TestPrimes(Case):
    def test_all_numbers_around_20000(self):
        marks = [True] * 20100
        for k in range(2, 150):
            for multiple in range(k * k, 20100, k):
                marks[multiple] = False
        for number in range(-3, 20100):
            self.assertIs(is_prime(number), 2 <= number <= 20000 and marks[number], number)

    def test_greater_primes_and_other_things(self):
        for thing in NO_WHOLES + (20011, 104729, 2 ** 61 - 1, -7, (7,), 7.0):
            self.assertIs(is_prime(thing), False, thing)

    def test_fields_of_other_primes_are_refused(self):
        for thing in NO_WHOLES + (0, 1, -3, 4, 9, 15, 19999, 20000, 20011, 141 * 141, 7.0, "7"):
            self.refused(BadPrime, {}, RestField, thing)


class TestRestField(Case):
    def test_attributes(self):
        for prime in PRIMES:
            field = RestField(prime)
            self.exactly((field.prime, field.zero, field.one, field.minus_one),
                         (prime, 0, 1, prime - 1))
        self.assertEqual(RestField(2).minus_one, 1)

    def test_equal(self):
        self.assertTrue(RestField(7) == RestField(7))
        self.assertFalse(RestField(7) != RestField(7))
        self.assertFalse(RestField(7) == RestField(5))
        self.assertTrue(FractionField() == FractionField())
        self.assertFalse(FractionField() != FractionField())
        for thing in (FIELD, 7, None, "7", object()):
            self.assertFalse(RestField(7) == thing)
        for thing in (RestField(7), 7, None, object()):
            self.assertFalse(FIELD == thing)

    def test_check_number(self):
        for prime in PRIMES:
            field = RestField(prime)
            for number in (0, 1, prime - 1):
                self.exactly(field.check_number(number), number)
            for thing in NO_WHOLES + (-1, prime, prime + 1, 10 ** 300, (1, 1)):
                self.refused(BadNumber, {}, field.check_number, thing)

    def test_number_of(self):
        for prime in PRIMES:
            for whole in (0, 1, -1, prime, prime + 1, -prime - 1, 10 ** 300, -10 ** 300):
                number = RestField(prime).number_of(whole)
                self.is_tuples(number)
                self.assertIn(number, range(prime))
                self.assertEqual((whole - number) % prime, 0)

    def test_sums_and_products(self):
        for prime in (2, 3, 5, 7, 13):
            field = RestField(prime)
            for one in range(prime):
                for other in range(prime):
                    self.exactly(field.plus(one, other), (one + other) % prime)
                    self.exactly(field.less(one, other), (one - other) % prime)
                    self.exactly(field.times(one, other), one * other % prime)
                    if other != 0:
                        found = field.quotient(one, other)
                        self.assertIn(found, range(prime))
                        self.assertEqual(found * other % prime, one)
                self.refused(ByZero, {}, field.quotient, one, 0)

    def test_powers(self):
        exponents = (0, 1, 2, 3, 11, 12, 10 ** 30, 10 ** 30 + 7, -1, -2, -10 ** 30, -10 ** 299 - 1)
        chances = a_random(41)
        for prime in PRIMES:
            field = RestField(prime)
            for number in [1, prime - 1] + [chances.randint(1, prime - 1) for _ in range(4)]:
                for exponent in exponents:
                    self.exactly(field.power(number, exponent), pow(number, exponent, prime))
            for exponent in exponents:
                if exponent < 0:
                    self.refused(ByZero, {}, field.power, 0, exponent)
                else:
                    self.exactly(field.power(0, exponent), 1 if exponent == 0 else 0)


class TestFractionField(Case):
    def test_attributes(self):
        self.exactly((FIELD.zero, FIELD.one, FIELD.minus_one), ((0, 1), (1, 1), (-1, 1)))

    def test_check_number(self):
        for fraction in FRACTIONS:
            self.exactly(FIELD.check_number(told(fraction)), told(fraction))
        for thing in NO_FRACTIONS:
            self.refused(BadNumber, {}, FIELD.check_number, thing)

    def test_number_of(self):
        for whole in (0, 1, -1, 7, -10 ** 299):
            self.exactly(FIELD.number_of(whole), (whole, 1))

    def test_sums_and_products(self):
        for one in FRACTIONS:
            for other in FRACTIONS:
                pair = (told(one), told(other))
                self.exactly(FIELD.plus(*pair), told(one + other))
                self.exactly(FIELD.less(*pair), told(one - other))
                self.exactly(FIELD.times(*pair), told(one * other))
                if other != 0:
                    self.exactly(FIELD.quotient(*pair), told(one / other))
            self.refused(ByZero, {}, FIELD.quotient, told(one), (0, 1))

    def test_powers(self):
        for fraction in FRACTIONS:
            if abs(fraction.numerator) < 100 and fraction.denominator < 100:
                for exponent in (0, 1, 2, 3, 10, 250, -1, -2, -3, -250):
                    if fraction == 0 and exponent < 0:
                        self.refused(ByZero, {}, FIELD.power, (0, 1), exponent)
                    else:
                        self.exactly(FIELD.power(told(fraction), exponent), told(fraction ** exponent))

    def test_great_exponents_of_zero_and_ones(self):
        for exponent in (10 ** 30, 10 ** 30 + 1):
            self.exactly(FIELD.power((1, 1), exponent), (1, 1))
            self.exactly(FIELD.power((0, 1), exponent), (0, 1))
            sign = -1 if exponent % 2 else 1
            self.exactly(FIELD.power((-1, 1), exponent), (sign, 1))
            self.exactly(FIELD.power((-1, 1), -exponent), (sign, 1))
            self.refused(ByZero, {}, FIELD.power, (0, 1), -exponent)


class TestSources(Case):
    def test_examples(self):
        self.exactly(source_of(RestField(7)), 3)
        self.exactly(steps_of(RestField(7), 6), 3)
        self.exactly(source_of(RestField(2)), 1)
        self.exactly(steps_of(RestField(2), 1), 0)
        self.exactly(source_of(RestField(3)), 2)

    def test_least_number_whose_powers_are_all(self):
        for prime in [number for number in range(2, 330) if is_prime(number)]:
            field = RestField(prime)
            for source in range(1, prime):
                powers = [pow(source, exponent, prime) for exponent in range(prime - 1)]
                if len(set(powers)) == prime - 1:
                    break
            self.exactly(source_of(field), source)
            if prime < 60:
                for exponent, number in enumerate(powers):
                    self.exactly(steps_of(field, number), exponent)

    def test_a_great_prime(self):
        field = RestField(19997)
        source = source_of(field)
        powers = {}
        number = 1
        for exponent in range(19996):
            powers[number] = exponent
            number = number * source % 19997
        self.assertEqual(len(powers), 19996)
        for number in (1, 2, source, 19996, 12345, pow(source, -1, 19997)):
            self.exactly(steps_of(field, number), powers[number])
        for less in range(1, source):
            self.assertTrue(any(pow(less, 19996 // k, 19997) == 1 for k in (2, 4999)))

    def test_no_steps(self):
        for prime in PRIMES:
            for thing in NO_WHOLES + (0, prime, -1, prime + 1):
                self.refused(BadNumber, {}, steps_of, RestField(prime), thing)


if __name__ == "__main__":
    unittest.main()
