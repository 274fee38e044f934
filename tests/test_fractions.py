"""Points 1 and 2: doingbook/fractions.py, held against Python's own fractions."""

import fractions
import math
import unittest

from doingbook.errors import NoFraction
from doingbook.fractions import before, fraction, minus, over, plus, times
from tests.support import refusal

LONG = 10 ** 63 + 57
LONGER = 7 ** 120
SMALL = list(range(-13, 14))
HUGE = [0, 1, -1, 6, LONG, -LONG, LONGER, -LONGER, LONG * LONGER, 6 * LONGER, -LONG ** 5]


def pair_of(number):
    return (number.numerator, number.denominator)


def some_fractions():
    small = [fraction(top, bottom) for top in range(-5, 6) for bottom in range(1, 6)]
    large = [fraction(top, bottom) for top in HUGE for bottom in (6, LONG, LONGER)]
    return small + large


class MakingTest(unittest.TestCase):
    def test_lowest_terms_of_both_signs(self):
        for top in SMALL + HUGE:
            for bottom in SMALL + HUGE:
                if bottom == 0:
                    continue
                with self.subTest(top=top, bottom=bottom):
                    told = fraction(top, bottom)
                    self.assertIs(type(told), tuple)
                    self.assertEqual([type(number) for number in told], [int, int])
                    self.assertEqual(told, pair_of(fractions.Fraction(top, bottom)))
                    self.assertGreaterEqual(told[1], 1)
                    self.assertEqual(math.gcd(told[0], told[1]), 1)

    def test_written_out(self):
        self.assertEqual(fraction(6, 4), (3, 2))
        self.assertEqual(fraction(-6, 4), (-3, 2))
        self.assertEqual(fraction(6, -4), (-3, 2))
        self.assertEqual(fraction(-6, -4), (3, 2))
        self.assertEqual(fraction(0, 9), (0, 1))
        self.assertEqual(fraction(0, -9), (0, 1))
        self.assertEqual(fraction(5, 5), (1, 1))
        self.assertEqual(fraction(4 * LONG, -2 * LONG), (-2, 1))

    def test_a_second_number_of_0_is_refused(self):
        for top in (0, 1, -1, LONG, -LONGER, 10 ** 6000):
            with self.subTest(top=top % 1000):
                self.assertIs(refusal(fraction, top, 0), NoFraction)

    def test_numbers_of_thousands_of_figures(self):
        top = 3 ** 9001 * 5
        bottom = -(3 ** 9000) * 7
        self.assertTrue(fraction(top, bottom) == (-15, 7))


class ReckoningTest(unittest.TestCase):
    def check(self, call, wanted, leave_out_0):
        for a in some_fractions():
            for b in some_fractions():
                if leave_out_0 and b[0] == 0:
                    continue
                with self.subTest(a=a, b=b):
                    told = call(a, b)
                    self.assertIs(type(told), tuple)
                    self.assertEqual(told, pair_of(wanted(fractions.Fraction(*a), fractions.Fraction(*b))))

    def test_plus(self):
        self.check(plus, lambda a, b: a + b, False)
        self.assertEqual(plus((1, 6), (1, 3)), (1, 2))

    def test_minus(self):
        self.check(minus, lambda a, b: a - b, False)
        self.assertEqual(minus((1, 6), (1, 2)), (-1, 3))
        self.assertEqual(minus((1, 6), (1, 6)), (0, 1))

    def test_times(self):
        self.check(times, lambda a, b: a * b, False)
        self.assertEqual(times((-2, 3), (3, 4)), (-1, 2))

    def test_over(self):
        self.check(over, lambda a, b: a / b, True)
        self.assertEqual(over((2, 3), (-4, 3)), (-1, 2))

    def test_a_quotient_by_0_is_refused(self):
        for a in some_fractions():
            with self.subTest(a=a):
                self.assertIs(refusal(over, a, (0, 1)), NoFraction)

    def test_before(self):
        for a in some_fractions():
            for b in some_fractions():
                with self.subTest(a=a, b=b):
                    self.assertIs(before(a, b), fractions.Fraction(*a) < fractions.Fraction(*b))

    def test_before_of_equal_ones(self):
        for a in some_fractions():
            with self.subTest(a=a):
                self.assertIs(before(a, tuple(list(a))), False)

    def test_before_of_neighbours(self):
        less = fraction(LONGER, LONGER + 1)
        more = fraction(LONGER + 1, LONGER + 2)
        self.assertIs(before(less, more), True)
        self.assertIs(before(more, less), False)
        self.assertEqual(minus(more, less), (1, (LONGER + 1) * (LONGER + 2)))


if __name__ == "__main__":
    unittest.main()
