import random
import unittest

from lattices import (
    HEXAGON, LINE, ORDINARY, ROOTS_4, SKEW_SQUARE, SQUARE, UNIT_4, near_by_box, pairs_of_bases,
    plain_norm, vectors_by_box,
)
from samples import plain_determinant

from gridmetric.errors import Malformed
from gridmetric.grid import Grid
from gridmetric.lattice import Lattice
from gridmetric.short import (
    counts, least_norm, least_vectors, near_vectors, short_vectors, tail_matrix,
)

SIX = ((-1, 0), (-1, 1), (0, -1), (0, 1), (1, -1), (1, 0))


def upper_left(lattice, size):
    return plain_determinant([row[:size] for row in lattice.gram.rows[:size]])


class TailMatrixTest(unittest.TestCase):
    def test_the_example_of_the_document(self):
        self.assertEqual(tail_matrix(HEXAGON.gram, 2), Grid(((3,),)))

    def test_the_first_one_is_the_gram_matrix(self):
        for lattice in ORDINARY:
            self.assertEqual(tail_matrix(lattice.gram, 1), lattice.gram)

    def test_the_last_one_is_the_determinant(self):
        for lattice in ORDINARY:
            found = tail_matrix(lattice.gram, lattice.rank())
            self.assertEqual(found, Grid(((lattice.determinant(),),)))

    def test_a_middle_one_by_hand(self):
        # m C less the transposed B times B, with A = (2), B = (1, 0) and m = 2.
        gram = Grid(((2, 1, 0), (1, 3, 1), (0, 1, 4)))
        self.assertEqual(tail_matrix(gram, 2), Grid(((5, 2), (2, 8))))
        self.assertEqual(tail_matrix(gram, 3), Grid(((18,),)))

    def test_its_items_are_minors_with_one_more_row_and_column(self):
        for lattice in ORDINARY:
            rows = lattice.gram.rows
            for k in range(1, lattice.rank() + 1):
                found = tail_matrix(lattice.gram, k)
                self.assertEqual((len(found), found.width), (lattice.rank() - k + 1,) * 2)
                for i, row in enumerate(found):
                    for j, item in enumerate(row):
                        high = [one[:k - 1] + (one[k - 1 + j],) for one in rows[:k - 1]]
                        low = rows[k - 1 + i][:k - 1] + (rows[k - 1 + i][k - 1 + j],)
                        self.assertEqual(item, plain_determinant(high + [low]))

    def test_the_value_of_the_tail_is_at_most_that_of_the_vector(self):
        for lattice in ORDINARY:
            for k in range(1, lattice.rank() + 1):
                tail = tail_matrix(lattice.gram, k)
                for v in lattice.box_vectors(2):
                    end = v[k - 1:]
                    value = sum(x * y for x, y in zip(tail.times(end), end))
                    self.assertLessEqual(value, upper_left(lattice, k - 1) * lattice.norm(v))


class NearVectorsTest(unittest.TestCase):
    def test_all_vectors_of_a_box(self):
        source = random.Random(6)
        for lattice in ORDINARY:
            for d in (1, 2, 3, 7):
                for most in (-1, 0, 1, d * d, 3 * d * d + 1):
                    a = tuple(source.randint(-9, 9) for _ in range(lattice.rank()))
                    expected = tuple(v for _, v in near_by_box(lattice, a, d, most))
                    self.assertEqual(near_vectors(lattice, a, d, most), expected)

    def test_skew_bases_with_large_items(self):
        source = random.Random(7)
        for lattice, skew, basis in pairs_of_bases(3):
            a = tuple(source.randint(-20, 20) for _ in range(lattice.rank()))
            point = basis.before(a)
            found = near_vectors(skew, a, 3, 40)
            pairs = [(plain_norm(skew, tuple(3 * y - x for x, y in zip(a, v))), v) for v in found]
            self.assertEqual(pairs, sorted(pairs))
            expected = [v for _, v in near_by_box(lattice, point, 3, 40)]
            self.assertEqual(sorted(basis.before(v) for v in found), sorted(expected))

    def test_the_order_is_by_the_norm_and_then_as_tuples(self):
        found = near_vectors(SQUARE, (1, 0), 2, 5)
        self.assertEqual(found, ((0, 0), (1, 0), (0, -1), (0, 1), (1, -1), (1, 1)))
        self.assertEqual(near_vectors(LINE, (0,), 1, 4), ((0,), (-1,), (1,), (-2,), (2,)))

    def test_a_bound_of_0_and_below(self):
        self.assertEqual(near_vectors(HEXAGON, (0, 0), 1, 0), ((0, 0),))
        self.assertEqual(near_vectors(HEXAGON, (6, -4), 2, 0), ((3, -2),))
        self.assertEqual(near_vectors(HEXAGON, (1, 0), 2, 0), ())
        for most in (-1, -100):
            self.assertEqual(near_vectors(HEXAGON, (0, 0), 1, most), ())

    def test_long_numbers(self):
        far = 10 ** 60
        self.assertEqual(near_vectors(HEXAGON, (far, -far), 1, 0), ((far, -far),))
        self.assertEqual(near_vectors(LINE, (far + 1,), far, 1), ((1,),))

    def test_wrong_points(self):
        for a in ((), (1,), (1, 2, 3)):
            with self.assertRaises(Malformed):
                near_vectors(HEXAGON, a, 1, 5)
        for d in (0, -1):
            with self.assertRaises(Malformed):
                near_vectors(HEXAGON, (1, 2), d, 5)
            with self.assertRaises(Malformed):
                near_vectors(HEXAGON, (1, 2), d, -5)


class ShortVectorsTest(unittest.TestCase):
    def test_the_examples_of_the_document(self):
        self.assertEqual(short_vectors(HEXAGON, 2), SIX)
        self.assertEqual(counts(HEXAGON, 2), (1, 0, 6))

    def test_all_vectors_of_a_box(self):
        for lattice in ORDINARY:
            for most in (1, 2, 3, 6):
                expected = tuple(vectors_by_box(lattice, most))
                self.assertEqual(short_vectors(lattice, most), expected)

    def test_none_for_a_bound_below_1(self):
        for lattice in ORDINARY:
            for most in (0, -1, -50):
                self.assertEqual(short_vectors(lattice, most), ())

    def test_with_each_vector_its_negative(self):
        for lattice, skew, _ in pairs_of_bases(2):
            found = short_vectors(skew, 12)
            self.assertEqual(len(found), len(short_vectors(lattice, 12)))
            self.assertEqual({tuple(-x for x in v) for v in found}, set(found))

    def test_a_skew_basis_with_large_items(self):
        lattice = Lattice(((9802, 99), (99, 1)))
        self.assertEqual(short_vectors(lattice, 1), ((-1, 99), (0, -1), (0, 1), (1, -99)))

    def test_counts_are_the_numbers_of_short_vectors(self):
        for lattice in ORDINARY:
            for most in (0, 1, 7):
                found = counts(lattice, most)
                norms = [plain_norm(lattice, v) for v in short_vectors(lattice, most)]
                expected = [1] + [norms.count(norm) for norm in range(1, most + 1)]
                self.assertEqual(found, tuple(expected))

    def test_counts_of_known_lattices(self):
        self.assertEqual(counts(UNIT_4, 4), (1, 8, 24, 32, 24))
        self.assertEqual(counts(ROOTS_4, 6), (1, 0, 24, 0, 24, 0, 96))
        self.assertEqual(counts(LINE, 0), (1,))
        self.assertEqual(counts(SKEW_SQUARE, 5), counts(SQUARE, 5))


class LeastNormTest(unittest.TestCase):
    def test_least_norms(self):
        for lattice in ORDINARY:
            most = min(lattice.gram.rows[k][k] for k in range(lattice.rank()))
            found = vectors_by_box(lattice, most)
            least = plain_norm(lattice, found[0])
            self.assertEqual(least_norm(lattice), least)
            expected = sorted(v for v in found if plain_norm(lattice, v) == least)
            self.assertEqual(least_vectors(lattice), tuple(expected))

    def test_skew_bases(self):
        for lattice, skew, basis in pairs_of_bases(3):
            self.assertEqual(least_norm(skew), least_norm(lattice))
            found = least_vectors(skew)
            self.assertEqual(list(found), sorted(found))
            self.assertEqual(sorted(basis.before(v) for v in found), list(least_vectors(lattice)))

    def test_large_items(self):
        lattice = Lattice(((10000, -9999), (-9999, 10000)))
        self.assertEqual(least_norm(lattice), 2)
        self.assertEqual(least_vectors(lattice), ((-1, -1), (1, 1)))
        self.assertEqual(least_norm(Lattice(((10000,),))), 10000)


if __name__ == "__main__":
    unittest.main()
