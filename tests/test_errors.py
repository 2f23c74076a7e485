"""The six error classes."""

import inspect
import unittest

from nearercamps import errors
from nearercamps.errors import BadLine, CanNot, NoPlace, NothingDone, TooMuch, Unfit

BASES = {NoPlace: LookupError, NothingDone: LookupError, BadLine: ValueError, CanNot: ValueError, TooMuch: ValueError,
         Unfit: ValueError}
VALUES = {NoPlace: ["place"], NothingDone: [], BadLine: ["line"], CanNot: [], TooMuch: [], Unfit: []}


class Errors(unittest.TestCase):
    def test_each_has_just_its_builtin_base(self):
        for kind, base in BASES.items():
            self.assertEqual(kind.__bases__, (base,))

    def test_each_stands_in_errors(self):
        classes = [value for value in vars(errors).values() if inspect.isclass(value)]
        own = [kind for kind in classes if kind.__module__ == errors.__name__]
        self.assertEqual(sorted(kind.__name__ for kind in own), sorted(kind.__name__ for kind in BASES))

    def test_each_keeps_the_values_of_its_constructor(self):
        for kind, names in VALUES.items():
            self.assertEqual(list(inspect.signature(kind).parameters), names)
            values = [7 + k for k in range(len(names))]
            by_place, by_name = kind(*values), kind(**dict(zip(names, values)))
            for error in (by_place, by_name):
                self.assertEqual(vars(error), dict(zip(names, values)))
                self.assertIsInstance(error, BASES[kind])

    def test_more_values_are_not_taken(self):
        for kind, names in VALUES.items():
            with self.assertRaises(TypeError):
                kind(*([1] * (len(names) + 1)))

    def test_values_stay_as_they_are(self):
        for place in (-1, 0, 10 ** 30):
            self.assertEqual(NoPlace(place).place, place)
            self.assertEqual(BadLine(place).line, place)

    def test_they_are_raised_and_caught_by_their_bases(self):
        for kind, base in BASES.items():
            values = [3] * len(VALUES[kind])
            with self.assertRaises(base):
                raise kind(*values)


if __name__ == "__main__":
    unittest.main()
