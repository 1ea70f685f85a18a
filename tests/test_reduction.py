import unittest
from itertools import product

from lattices import ORDINARY, pairs_of_bases

from gridmetric.reduction import short_basis
from gridmetric.short import least_norm


class ShortBasisTest(unittest.TestCase):
    def test_it_is_a_basis_that_ascends(self):
        for lattice in ORDINARY:
            basis = short_basis(lattice)
            self.assertTrue(basis.is_unimodular())
            norms = [lattice.norm(v) for v in basis]
            self.assertEqual(norms, sorted(norms))
            self.assertEqual(norms[0], least_norm(lattice))

    def test_no_row_gets_shorter_by_those_before_it(self):
        for _, skew, _ in pairs_of_bases(5):
            gram = skew.changed(short_basis(skew)).gram.rows
            for k in range(len(gram)):
                for signs in product((-1, 0, 1), repeat=k):
                    v = signs + (1,)
                    norm = sum(v[i] * v[j] * gram[i][j] for i in range(k + 1) for j in range(k + 1))
                    self.assertGreaterEqual(norm, gram[k][k])


if __name__ == "__main__":
    unittest.main()
