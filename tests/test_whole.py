import math
import unittest
from fractions import Fraction

from gridmetric.errors import Refused
from gridmetric.whole import (
    cofactors, content, divisors, dot, is_integer, lower, root_floor, rounded, upper,
)

LONG = 7 ** 500
NUMBERS = tuple(range(-13, 14)) + (-LONG, LONG, LONG + 1, 30 ** 200, -(21 ** 300))


class IsIntegerTest(unittest.TestCase):
    def test_integers_of_any_size_and_sign(self):
        for number in NUMBERS:
            self.assertIs(is_integer(number), True)

    def test_true_and_false_are_none(self):
        self.assertIs(is_integer(True), False)
        self.assertIs(is_integer(False), False)

    def test_other_values(self):
        for value in (None, "1", "", (), (1,), [1], 1.0, b"1", {}):
            self.assertIs(is_integer(value), False)


class RootFloorTest(unittest.TestCase):
    def test_small_numbers(self):
        found = [root_floor(n) for n in range(17)]
        self.assertEqual(found, [0, 1, 1, 1, 2, 2, 2, 2, 2, 3, 3, 3, 3, 3, 3, 3, 4])

    def test_the_square_is_at_most_n_and_the_next_one_above(self):
        for n in (10 ** 6 - 1, 10 ** 6, 2 ** 53, LONG, LONG ** 2, LONG ** 2 - 1, LONG ** 2 + 1):
            root = root_floor(n)
            self.assertGreaterEqual(root, 0)
            self.assertLessEqual(root * root, n)
            self.assertGreater((root + 1) * (root + 1), n)

    def test_negative_numbers_are_refused(self):
        for n in (-1, -4, -LONG):
            with self.assertRaises(Refused) as caught:
                root_floor(n)
            self.assertEqual(caught.exception.reason, "negative")


class QuotientTest(unittest.TestCase):
    def test_by_fractions(self):
        for a in NUMBERS:
            for b in (1, 2, 3, 7, LONG):
                self.assertEqual(upper(a, b), math.ceil(Fraction(a, b)))
                self.assertEqual(lower(a, b), math.floor(Fraction(a, b)))

    def test_examples(self):
        self.assertEqual((upper(7, 2), lower(7, 2)), (4, 3))
        self.assertEqual((upper(-7, 2), lower(-7, 2)), (-3, -4))
        self.assertEqual((upper(6, 2), lower(6, 2)), (3, 3))
        self.assertEqual((upper(0, 5), lower(0, 5)), (0, 0))


class RoundedTest(unittest.TestCase):
    def test_it_is_at_most_one_half_away(self):
        for a in NUMBERS:
            for b in (1, 2, 3, 10, LONG):
                self.assertLessEqual(abs(rounded(a, b) - Fraction(a, b)), Fraction(1, 2))


class CofactorsTest(unittest.TestCase):
    def test_all_signs_and_sizes(self):
        for a in NUMBERS:
            for b in NUMBERS:
                found = cofactors(a, b)
                self.assertIsInstance(found, tuple)
                g, u, v = found
                self.assertEqual(g, math.gcd(a, b))
                self.assertEqual(u * a + v * b, g)

    def test_zero(self):
        self.assertEqual(cofactors(0, 0)[0], 0)
        self.assertEqual(cofactors(0, -4)[0], 4)
        self.assertEqual(cofactors(-4, 0)[0], 4)


class ContentTest(unittest.TestCase):
    def test_lists_and_tuples(self):
        self.assertEqual(content([6, 10, 15]), 1)
        self.assertEqual(content((12, -18, 30)), 6)
        self.assertEqual(content((-5,)), 5)
        self.assertEqual(content([0, -4]), 4)
        self.assertEqual(content((LONG * 6, -LONG * 10)), LONG * 2)

    def test_zeros_alone_and_no_numbers(self):
        self.assertEqual(content((0, 0, 0)), 0)
        self.assertEqual(content(()), 0)
        self.assertEqual(content([]), 0)

    def test_the_argument_stays(self):
        numbers = [4, 6]
        content(numbers)
        self.assertEqual(numbers, [4, 6])


class DotTest(unittest.TestCase):
    def test_products(self):
        self.assertEqual(dot((1, 2, 3), (4, -5, 6)), 12)
        self.assertEqual(dot((LONG,), (-LONG,)), -LONG ** 2)
        self.assertEqual(dot((), ()), 0)


class DivisorsTest(unittest.TestCase):
    def test_small_numbers(self):
        for n in range(1, 400):
            expected = tuple(k for k in range(1, n + 1) if n % k == 0)
            self.assertEqual(divisors(n), expected)

    def test_large_numbers(self):
        self.assertEqual(divisors(2 ** 300), tuple(2 ** k for k in range(301)))
        self.assertEqual(divisors(10 ** 12 + 39), (1, 10 ** 12 + 39))
        self.assertEqual(divisors(1009 * 1013), (1, 1009, 1013, 1009 * 1013))
        self.assertEqual(divisors(1009 ** 2), (1, 1009, 1009 ** 2))
        self.assertEqual(len(divisors(10 ** 40)), 41 ** 2)


if __name__ == "__main__":
    unittest.main()
