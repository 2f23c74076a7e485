"""Fractions: pairs in lowest terms, against Python's own."""

import random
import unittest
from fractions import Fraction

from nearercamps.quotients import divided, greatest_at, is_fraction, is_less, least_at, lowest, minus, multiplied, plus
from nearercamps.quotients import total_of, weighed
from tests.plain_steps import pair_of, worth


def drawn(rng):
    return pair_of(Fraction(rng.randint(-12, 12), rng.randint(1, 9)))


class Quotients(unittest.TestCase):
    def test_against_fractions(self):
        rng = random.Random(1)
        for _ in range(400):
            one, other = drawn(rng), drawn(rng)
            a, b = worth(one), worth(other)
            self.assertEqual(plus(one, other), pair_of(a + b))
            self.assertEqual(minus(one, other), pair_of(a - b))
            self.assertEqual(multiplied(one, other), pair_of(a * b))
            self.assertIs(is_less(one, other), a < b)
            self.assertIs(is_fraction(one), True)
            if b != 0:
                self.assertEqual(divided(one, other), pair_of(a / b))

    def test_lowest(self):
        for top in range(-12, 13):
            for bottom in list(range(-9, 0)) + list(range(1, 10)):
                self.assertEqual(lowest(top, bottom), pair_of(Fraction(top, bottom)))

    def test_of_several(self):
        rng = random.Random(2)
        for many in range(1, 8):
            for _ in range(20):
                numbers, shares = [drawn(rng) for _ in range(many)], [drawn(rng) for _ in range(many)]
                worths = [worth(number) for number in numbers]
                self.assertEqual(total_of(numbers), pair_of(sum(worths)))
                self.assertEqual(least_at(numbers), worths.index(min(worths)))
                self.assertEqual(greatest_at(numbers), worths.index(max(worths)))
                self.assertEqual(weighed(shares, numbers), pair_of(sum(worth(s) * w for s, w in zip(shares, worths))))
        self.assertEqual(total_of([]), (0, 1))


if __name__ == "__main__":
    unittest.main()
