import unittest
from itertools import product

from lattices import (
    CUBE, HEXAGON, LONG_SQUARE, ORDINARY, ROOTS_4, SQUARE, UNIT_4, pairs_of_bases,
    plain_norm,
)

from gridmetric.errors import Refused
from gridmetric.grid import Grid, diagonal, unit
from gridmetric.lattice import Lattice
from gridmetric.least import form
from gridmetric.nested import above, raised, sublattice_count, sublattices

# Determinants up to 400 with whole lattices above, of each rank.
GROWING = (
    Lattice(((400,),)),
    Lattice(((36,),)),
    Lattice(diagonal((4, 4))),
    Lattice(diagonal((20, 20))),
    Lattice(((8, 4), (4, 8))),
    Lattice(diagonal((2, 8))),
    Lattice(diagonal((2, 2, 2))),
    Lattice(diagonal((1, 4, 4))),
    Lattice(((4, 2, 0), (2, 4, 0), (0, 0, 1))),
    Lattice(diagonal((2, 2, 2, 2))),
    Lattice(((2, 0, 0, 1), (0, 2, 0, 1), (0, 0, 2, 1), (1, 1, 1, 2))),
)


def hermites(n, pivots, most):
    """All square matrices in Hermite form with given pivots: each by its items.

    Only the diagonal and the items above a pivot are not 0.
    """
    places = [(i, j) for j in range(n) for i in range(j)]
    for diagonal_items in product(pivots, repeat=n):
        volume = 1
        for item in diagonal_items:
            volume *= item
        if volume > most:
            continue
        for items in product(*[range(diagonal_items[j]) for _, j in places]):
            rows = [[0] * n for _ in range(n)]
            for k in range(n):
                rows[k][k] = diagonal_items[k]
            for (i, j), item in zip(places, items):
                rows[i][j] = item
            yield volume, tuple(map(tuple, rows))


def sublattices_by_words(n, index):
    pivots = [k for k in range(1, index + 1) if index % k == 0]
    return sorted(rows for volume, rows in hermites(n, pivots, index) if volume == index)


def count_by_sums(n, index):
    """The sum over the last pivot: it has so many choices in each row above."""
    if n == 0:
        return 1 if index == 1 else 0
    pivots = [k for k in range(1, index + 1) if index % k == 0]
    return sum(k ** (n - 1) * count_by_sums(n - 1, index // k) for k in pivots)


def above_by_words(lattice):
    """The whole lattices above by the words of point 7.4, over all matrices in Hermite form."""
    n = lattice.rank()
    e = lattice.gram.factors()[-1]
    found = []
    pivots = [k for k in range(1, e + 1) if e % k == 0]
    for volume, rows in hermites(n, pivots, e ** n):
        # The norms first, as they are soon told.
        if any(plain_norm(lattice, row) % (e * e) != 0 for row in rows):
            continue
        grid = Grid(rows)
        products = grid * lattice.gram * grid.transposed()
        if any(item % (e * e) != 0 for row in products for item in row):
            continue
        if all(grid.coefficients(row) is not None for row in unit(n).scaled(e)):
            found.append((e ** n // volume, rows))
    return sorted(found)


def told(pairs):
    return [(index, grid.rows) for index, grid in pairs]


class SublatticesTest(unittest.TestCase):
    def test_the_example_of_the_document(self):
        self.assertEqual([grid.rows for grid in sublattices(2, 2)],
                         [((1, 0), (0, 2)), ((1, 1), (0, 2)), ((2, 0), (0, 1))])

    def test_all_matrices_in_hermite_form(self):
        for n, indexes in ((1, (1, 2, 60)), (2, (1, 2, 3, 4, 6, 12, 59)), (3, (1, 2, 4, 6)),
                           (4, (1, 2, 3, 4))):
            for index in indexes:
                found = [grid.rows for grid in sublattices(n, index)]
                self.assertEqual(found, sublattices_by_words(n, index))

    def test_the_numbers(self):
        for n in (1, 2, 3, 4):
            for index in range(1, 61):
                self.assertEqual(sublattice_count(n, index), count_by_sums(n, index))
        self.assertEqual(sublattice_count(4, 60), 967200)
        for n, index in ((1, 60), (2, 60), (3, 60), (4, 1), (4, 13), (4, 12)):
            self.assertEqual(len(sublattices(n, index)), count_by_sums(n, index))

    def test_the_form_and_the_order(self):
        for n, index in ((1, 60), (2, 60), (3, 30), (4, 6)):
            found = sublattices(n, index)
            self.assertIs(type(found), tuple)
            rows = [grid.rows for grid in found]
            self.assertEqual(rows, sorted(set(rows)))
            for grid in found[::7]:
                self.assertIsInstance(grid, Grid)
                self.assertEqual(grid.determinant(), index)
                self.assertEqual(grid.hermite()[0], grid)

    def test_spanned_makes_their_lattices(self):
        for grid in sublattices(2, 6):
            self.assertEqual(HEXAGON.spanned(grid).determinant(), 3 * 36)

    def test_the_edges(self):
        self.assertEqual(sublattices(1, 1), (unit(1),))
        self.assertEqual(sublattices(4, 1), (unit(4),))
        self.assertEqual(sublattices(1, 60), (Grid(((60,),)),))

    def test_all_other_values(self):
        for n, index in (
            (0, 2), (5, 2), (-1, 2), (2, 0), (2, 61), (2, -1), (2, 10 ** 30), (10 ** 30, 1),
            (True, 2), (2, True), ("2", 2), (2, "2"), (None, 2), (2, None), ((2,), 2), (2, [2]),
            (0, 0), (5, 61), (SQUARE, 2), (2, unit(2)), (2, ()), (False, 2),
        ):
            with self.assertRaises(Refused) as caught:
                sublattices(n, index)
            self.assertEqual(caught.exception.reason, "large")


class AboveTest(unittest.TestCase):
    def test_the_examples_of_the_document(self):
        self.assertEqual(told(above(Lattice(((4,),)))), [(1, ((4,),)), (2, ((2,),))])
        for n in (1, 2, 3, 4):
            self.assertEqual(told(above(Lattice(unit(n)))), [(1, unit(n).rows)])

    def test_all_matrices_in_hermite_form(self):
        for lattice in GROWING:
            self.assertEqual(told(above(lattice)), above_by_words(lattice), str(lattice))
        for lattice in ORDINARY:
            if lattice.determinant() <= 400 and lattice.gram.factors()[-1] ** lattice.rank() < 300:
                self.assertEqual(told(above(lattice)), above_by_words(lattice), str(lattice))

    def test_known_numbers(self):
        for lattice, indexes in (
            (HEXAGON, [1]), (LONG_SQUARE, [1]), (Lattice(((36,),)), [1, 2, 3, 6]),
            (Lattice(((400,),)), [1, 2, 4, 5, 10, 20]), (ROOTS_4, [1, 2, 2, 2]),
            (Lattice(diagonal((2, 2))), [1, 2]), (Lattice(((20,),)), [1, 2]),
            (Lattice(diagonal((2, 2, 2, 2))), [1] + [2] * 7 + [4] * 3),
        ):
            self.assertEqual([index for index, _ in above(lattice)], indexes)

    def test_the_points_of_7_4(self):
        for lattice in GROWING + (Lattice(diagonal((4, 4, 4, 4))), Lattice(diagonal((3, 3, 3, 3)))):
            n, e = lattice.rank(), lattice.gram.factors()[-1]
            found = above(lattice)
            self.assertIs(type(found), tuple)
            self.assertEqual(told(found), sorted(set(told(found))))
            self.assertEqual(told(found)[0], (1, unit(n).scaled(e).rows))
            for index, grid in found:
                self.assertEqual(grid.hermite()[0], grid)
                self.assertEqual(index * grid.determinant(), e ** n)
                self.assertEqual(lattice.determinant() % (index * index), 0)
                made = raised(lattice, grid)
                self.assertEqual(made.determinant() * index * index, lattice.determinant())

    def test_a_skew_basis(self):
        for lattice, skew, basis in pairs_of_bases(1):
            if lattice.determinant() <= 400:
                moved = [(index, (grid * basis).hermite()[0].rows) for index, grid in above(skew)]
                self.assertEqual(sorted(moved), told(above(lattice)))

    def test_determinants_at_the_edge(self):
        self.assertEqual(len(above(Lattice(diagonal((1, 1, 1, 400))))), 6)
        self.assertEqual(len(above(Lattice(((1, 20), (20, 800))))), 6)
        for gram in (((401,),), ((1, 0), (0, 401)), ((21, 4), (4, 20)), unit(4).scaled(5)):
            with self.assertRaises(Refused) as caught:
                above(Lattice(gram))
            self.assertEqual(caught.exception.reason, "large")


class RaisedTest(unittest.TestCase):
    def test_by_hand(self):
        self.assertEqual(str(raised(Lattice(((4,),)), Grid(((2,),)))), "1")
        self.assertEqual(str(raised(Lattice(((4,),)), Grid(((4,),)))), "4")
        self.assertEqual(str(raised(Lattice(diagonal((2, 2))), Grid(((1, 1), (0, 2))))), "1 1; 1 2")

    def test_the_lattice_itself(self):
        for lattice in ORDINARY:
            e = lattice.gram.factors()[-1]
            self.assertEqual(raised(lattice, unit(lattice.rank()).scaled(e)), lattice)

    def test_the_lattices_between_the_roots_and_their_dual(self):
        # Each of the three lattices above the roots of rank 4 is a lattice of unit vectors.
        found = [raised(ROOTS_4, grid) for index, grid in above(ROOTS_4) if index == 2]
        self.assertEqual([form(lattice) for lattice in found], [form(UNIT_4)] * 3)

    def test_a_sublattice_of_the_cube_has_the_cube_above(self):
        for grid in sublattices(3, 3):
            small = CUBE.spanned(grid)
            forms = [form(raised(small, h)) for index, h in above(small) if index == 3]
            self.assertIn(form(CUBE), forms)

    def test_a_basis_in_hermite_form_that_is_too_large(self):
        lattice = Lattice(((8534, 8694, 8906), (8694, 8857, 9073), (8906, 9073, 9299)))
        high = Grid(((1, 1, 1), (0, 2, 0), (0, 0, 2)))
        self.assertEqual(told(above(lattice))[1:], [(2, high.rows)])
        self.assertGreater(lattice.norm((1, 1, 1)), 4 * 10000)
        with self.assertRaises(Refused) as caught:
            raised(lattice, high)
        self.assertEqual(caught.exception.reason, "large")


if __name__ == "__main__":
    unittest.main()
