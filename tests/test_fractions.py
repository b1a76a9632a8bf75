"""[8.1]: what a fraction is, and reckoning with fractions."""

import unittest
from fractions import Fraction
from math import gcd, lcm

from leastblame.fractions import divisor, fraction, is_fraction, multiple, on_one_bottom

from helpers import odd_things


class IsFraction(unittest.TestCase):
    def test_right_ones(self):
        for thing in [(0, 1), (1, 1), (1, 2), (5, 3), (7, 1), (10 ** 59, 10 ** 59 + 1)]:
            self.assertIs(is_fraction(thing), True, thing)

    def test_wrong_ones(self):
        for thing in [(), (1,), (1, 2, 3), (0, 2), (0, 0), (1, 0), (2, 4), (3, 3), (-1, 2), (1, -2), (-1, -2), [1, 2],
                      (True, 2), (1, True), (False, 1), (0.5, 1), (1, 2.0), ("1", 2), (1, "2"), (None, 1), "12", b"12"]:
            self.assertIs(is_fraction(thing), False, thing)

    def test_things_of_every_other_kind(self):
        for thing in odd_things():
            self.assertIs(is_fraction(thing), False)
            if thing.__class__ is not int:
                self.assertIs(is_fraction((thing, 7)), False)
                self.assertIs(is_fraction((7, thing)), False)


class Reckoned(unittest.TestCase):
    def test_divisor_and_multiple(self):
        for one in range(40):
            for other in range(1, 40):
                self.assertEqual(divisor(one, other), gcd(one, other))
                self.assertEqual(divisor(other, one), gcd(one, other))
        self.assertEqual(multiple([]), 1)
        self.assertEqual(multiple(list(range(1, 50))), lcm(*range(1, 50)))

    def test_fraction(self):
        for top in range(30):
            for bottom in range(1, 30):
                told = fraction(top, bottom)
                self.assertEqual(Fraction(top, bottom), Fraction(*told))
                self.assertIs(is_fraction(told), True)

    def test_on_one_bottom(self):
        self.assertEqual(on_one_bottom([]), ([], 1))
        self.assertEqual(on_one_bottom([(1, 2), (1, 3), (3, 4)]), ([6, 4, 9], 12))


if __name__ == "__main__":
    unittest.main()
