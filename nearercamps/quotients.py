"""FRACTIONS: pairs (top, bottom) in lowest terms."""

from math import gcd

from nearercamps.plain import is_number, is_tuple_of

NOUGHT = (0, 1)
UNIT = (1, 1)


def is_fraction(thing):
    """Return whether thing is a FRACTION."""
    if not is_tuple_of(thing, 2):
        return False
    top, bottom = thing
    return is_number(top) and is_number(bottom) and bottom >= 1 and gcd(top, bottom) == 1


def lowest(top, bottom):
    """Return the FRACTION top / bottom, bottom not 0."""
    common = gcd(top, bottom)
    if bottom < 0:
        common = -common
    return (top // common, bottom // common)


def plus(one, other):
    """Return the sum."""
    return lowest(one[0] * other[1] + other[0] * one[1], one[1] * other[1])


def minus(one, other):
    """Return one less other."""
    return lowest(one[0] * other[1] - other[0] * one[1], one[1] * other[1])


def multiplied(one, other):
    """Return the product."""
    return lowest(one[0] * other[0], one[1] * other[1])


def divided(one, other):
    """Return one divided by other, other not 0."""
    return lowest(one[0] * other[1], one[1] * other[0])


def is_less(one, other):
    """Return whether one is less than other."""
    return one[0] * other[1] < other[0] * one[1]


def total_of(numbers):
    """Return the sum of all numbers."""
    total = NOUGHT
    for number in numbers:
        total = plus(total, number)
    return total


def least_at(numbers):
    """Return the first place of the least of numbers."""
    best = 0
    for at, number in enumerate(numbers):
        if is_less(number, numbers[best]):
            best = at
    return best


def greatest_at(numbers):
    """Return the first place of the greatest of numbers."""
    best = 0
    for at, number in enumerate(numbers):
        if is_less(numbers[best], number):
            best = at
    return best


def weighed(shares, numbers):
    """Return the sum of shares times numbers."""
    return total_of([multiplied(share, number) for share, number in zip(shares, numbers)])
