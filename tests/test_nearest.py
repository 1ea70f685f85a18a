import random
import unittest
from fractions import Fraction

from lattices import (
    HEXAGON, LINE, ORDINARY, SQUARE, UNIT_4, near_by_box, pairs_of_bases, plain_norm,
)

from gridmetric.errors import Malformed
from gridmetric.lattice import Lattice
from gridmetric.nearest import distance, nearest


def nearest_by_box(lattice, a, d):
    """The nearest vectors among all those up to the distance of the zero vector moved near."""
    close = tuple((2 * x + d) // (2 * d) for x in a)
    bound = plain_norm(lattice, tuple(d * y - x for x, y in zip(a, close)))
    found = near_by_box(lattice, a, d, bound)
    least = found[0][0]
    return tuple(v for norm, v in found if norm == least), Fraction(least, d * d)


class NearestTest(unittest.TestCase):
    def test_the_examples_of_the_document(self):
        self.assertEqual(nearest(HEXAGON, (1, 1), 3), (((0, 0), (0, 1), (1, 0)), (2, 3)))
        self.assertEqual(nearest(LINE, (1,), 2), (((0,), (1,)), (1, 4)))

    def test_all_vectors_of_a_box(self):
        source = random.Random(8)
        for lattice in ORDINARY:
            for d in (1, 2, 3, 4, 10):
                a = tuple(source.randint(-3 * d, 3 * d) for _ in range(lattice.rank()))
                expected, far = nearest_by_box(lattice, a, d)
                found, (p, q) = nearest(lattice, a, d)
                self.assertEqual(found, expected)
                self.assertEqual((p, q), (far.numerator, far.denominator))

    def test_skew_bases_with_large_items(self):
        source = random.Random(9)
        for lattice, skew, basis in pairs_of_bases(4):
            a = tuple(source.randint(-20, 20) for _ in range(lattice.rank()))
            found, far = nearest(skew, a, 6)
            expected, again = nearest_by_box(lattice, basis.before(a), 6)
            self.assertEqual(list(found), sorted(found))
            self.assertEqual(sorted(basis.before(v) for v in found), sorted(expected))
            self.assertEqual(far, (again.numerator, again.denominator))

    def test_points_on_a_vector(self):
        for lattice in ORDINARY:
            v = tuple(range(3, 3 + lattice.rank()))
            for d in (1, 2, 5):
                a = tuple(d * x for x in v)
                self.assertEqual(nearest(lattice, a, d), ((v,), (0, 1)))

    def test_points_half_between_vectors(self):
        self.assertEqual(nearest(UNIT_4, (1, 1, 1, 1), 2)[1], (1, 1))
        found = nearest(UNIT_4, (1, 1, 1, 1), 2)[0]
        self.assertEqual(found, tuple(v for v in UNIT_4.box_vectors(1) if min(v) >= 0))
        self.assertEqual(nearest(SQUARE, (-1, 4), 2), (((-1, 2), (0, 2)), (1, 4)))
        self.assertEqual(nearest(LINE, (-7,), 2), (((-4,), (-3,)), (1, 4)))

    def test_equal_points_in_other_terms(self):
        self.assertEqual(nearest(HEXAGON, (2, 2), 6), nearest(HEXAGON, (1, 1), 3))

    def test_a_long_vector_beside_short_ones(self):
        lattice = Lattice(((1, 0, 0, 0), (0, 1, 0, 0), (0, 0, 1, 0), (0, 0, 0, 10000)))
        found = nearest(lattice, (0, 0, 0, 1), 2)
        self.assertEqual(found, (((0, 0, 0, 0), (0, 0, 0, 1)), (2500, 1)))

    def test_long_numbers(self):
        far = 10 ** 60
        self.assertEqual(nearest(SQUARE, (far * far + 1, 0), far), (((far, 0),), (1, far * far)))

    def test_wrong_points(self):
        for a, d in (((), 1), ((1,), 2), ((1, 2, 3), 2), ((1, 2), 0), ((1, 2), -3)):
            with self.assertRaises(Malformed):
                nearest(HEXAGON, a, d)


class DistanceTest(unittest.TestCase):
    def test_lowest_terms(self):
        self.assertEqual(distance(HEXAGON, (1, 1), 3, (0, 0)), (2, 3))
        self.assertEqual(distance(LINE, (1,), 2, (3,)), (25, 4))
        self.assertEqual(distance(SQUARE, (2, 2), 4, (0, 0)), (1, 2))
        self.assertEqual(distance(SQUARE, (4, -4), 4, (1, -1)), (0, 1))
        self.assertEqual(distance(SQUARE, (1, 2), 1, (4, 6)), (25, 1))

    def test_by_fractions(self):
        for lattice in ORDINARY:
            a = tuple(range(-1, lattice.rank() - 1))
            for d in (1, 2, 3, 6):
                for v in list(lattice.box_vectors(1))[:20]:
                    x = tuple(d * y - z for y, z in zip(v, a))
                    far = Fraction(plain_norm(lattice, x), d * d)
                    self.assertEqual(distance(lattice, a, d, v), (far.numerator, far.denominator))

    def test_the_nearest_vectors_have_the_distance(self):
        found, far = nearest(HEXAGON, (4, -3), 5)
        for v in found:
            self.assertEqual(distance(HEXAGON, (4, -3), 5, v), far)

    def test_wrong_points_and_vectors(self):
        for a, d, v in (
            ((1,), 2, (0, 0)), ((1, 2, 3), 2, (0, 0)), ((1, 2), 0, (0, 0)), ((1, 2), -1, (0, 0)),
            ((1, 2), 2, ()), ((1, 2), 2, (0,)), ((1, 2), 2, (0, 0, 0)),
        ):
            with self.assertRaises(Malformed):
                distance(HEXAGON, a, d, v)


if __name__ == "__main__":
    unittest.main()
