"""Whole numbers: what counts as one, divisors, multiples and powers."""

from math import gcd, lcm


def is_whole(thing, low=None, high=None):
    """Tell whether the thing is an integer, and no bool, from low to high."""
    if isinstance(thing, bool) or not isinstance(thing, int):
        return False
    if low is not None and thing < low:
        return False
    return high is None or thing <= high


def is_sign(thing):
    """Tell whether the thing is the integer 0 or 1."""
    return is_whole(thing, 0, 1)


def common_divisor(one, other):
    """Return the greatest common divisor, 0 for two zeros."""
    return gcd(one, other)


def common_multiple(one, other):
    """Return the least common multiple, 0 if one of the two is 0."""
    return lcm(one, other)


def power_of(base, exponent):
    """Return the power of an integer with an exponent from 0."""
    result = 1
    while exponent > 0:
        if exponent % 2 == 1:
            result = result * base
        exponent = exponent // 2
        # The last square would be greater than all that is needed.
        if exponent > 0:
            base = base * base
    return result
