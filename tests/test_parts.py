import itertools
import unittest
from fractions import Fraction

from voicewright.errors import BadTime
from voicewright.parts import (as_wholes, by, check_length, greatest, in_order, is_less, least, minus, part, plus,
                               rest_by, shared, times, total, whole_below)

LOT = sorted({(Fraction(top, low).numerator, Fraction(top, low).denominator)
              for top in range(-7, 8) for low in (1, 2, 3, 4, 6)})


def told(fraction):
    return (fraction.numerator, fraction.denominator)


class Parts(unittest.TestCase):
    def test_shared(self):
        self.assertEqual(shared(12, 18), 6)
        self.assertEqual(shared(7, 5), 1)
        self.assertEqual(shared(0, 5), 5)
        self.assertEqual(shared(5, 0), 5)

    def test_made_small(self):
        self.assertEqual(part(6, 4), (3, 2))
        self.assertEqual(part(6), (6, 1))
        self.assertEqual(part(0, 5), (0, 1))
        self.assertEqual(part(0, -5), (0, 1))
        self.assertEqual(part(3, -6), (-1, 2))
        self.assertEqual(part(-3, -6), (1, 2))
        self.assertEqual(part(-10, 4), (-5, 2))
        self.assertIs(type(part(1, 2)), tuple)
        for top in range(-20, 21):
            for low in range(-20, 21):
                if low != 0:
                    self.assertEqual(part(top, low), told(Fraction(top, low)))

    def test_by_nought(self):
        for refused in (lambda: part(1, 0), lambda: part(0, 0), lambda: by((1, 2), (0, 1)),
                        lambda: rest_by((1, 2), (0, 1)), lambda: check_length((1, 0))):
            with self.assertRaises(BadTime):
                refused()

    def test_sums_products_and_order(self):
        for one, other in itertools.product(LOT, repeat=2):
            here, there = Fraction(*one), Fraction(*other)
            self.assertEqual(plus(one, other), told(here + there))
            self.assertEqual(minus(one, other), told(here - there))
            self.assertEqual(times(one, other), told(here * there))
            self.assertIs(is_less(one, other), here < there)
            self.assertEqual(least(one, other), told(min(here, there)))
            self.assertEqual(greatest(one, other), told(max(here, there)))
            if there != 0:
                self.assertEqual(by(one, other), told(here / there))
            if there > 0:
                self.assertEqual(rest_by(one, other), told(here % there))

    def test_wholes_and_rests(self):
        for one in LOT:
            self.assertEqual(whole_below(one), Fraction(*one).__floor__())
        self.assertEqual(whole_below((-1, 2)), -1)
        self.assertEqual(whole_below((7, 2)), 3)
        self.assertEqual(whole_below((-4, 1)), -4)
        self.assertEqual(rest_by((7, 2), (1, 1)), (1, 2))
        self.assertEqual(rest_by((-1, 4), (1, 2)), (1, 4))
        self.assertEqual(rest_by((3, 2), (3, 4)), (0, 1))

    def test_total(self):
        self.assertEqual(total(()), (0, 1))
        self.assertEqual(total([(1, 2), (1, 3), (1, 6)]), (1, 1))
        self.assertEqual(total([(1, 2), (-3, 4)]), (-1, 4))

    def test_in_order(self):
        self.assertEqual(in_order(()), ())
        self.assertEqual(in_order([(1, 2), (1, 3), (-1, 4), (2, 3), (1, 3)]),
                         ((-1, 4), (1, 3), (1, 3), (1, 2), (2, 3)))
        for row in itertools.permutations(((1, 2), (2, 3), (0, 1), (-5, 3))):
            handed = list(row)
            self.assertEqual(in_order(handed), ((-5, 3), (0, 1), (1, 2), (2, 3)))
            self.assertEqual(handed, list(row))

    def test_check_length(self):
        self.assertEqual(check_length((2, 4)), (1, 2))
        self.assertEqual(check_length((3, 1)), (3, 1))
        for one in ((0, 1), (-1, 2), (0, 7), (1, -2)):
            with self.assertRaises(BadTime):
                check_length(one)

    def test_as_wholes(self):
        self.assertEqual(as_wholes([(1, 2), (-2, 3), (0, 1), (5, 4)]), [6, -8, 0, 15])
        self.assertEqual(as_wholes([(2, 1), (1, 1)]), [2, 1])
        self.assertEqual(as_wholes(()), [])

    def test_big_numbers_stay_exact(self):
        big = 10 ** 40
        self.assertEqual(plus((1, big), (1, big)), (1, big // 2))
        self.assertIs(is_less((big, big + 1), (big + 1, big + 2)), True)
