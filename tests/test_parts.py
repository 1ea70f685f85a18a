import random
import unittest

from lattices import (
    CUBE, HEXAGON, LINE, LONG_SQUARE, ORDINARY, ROOTS_4, SKEW_SQUARE, SMALL, SQUARE, UNIT_4,
    pairs_of_bases, plain_norm, plain_product, random_lattice, skewed, vectors_by_box,
)

from gridmetric.errors import Malformed, Refused
from gridmetric.grid import Grid, unit
from gridmetric.lattice import Lattice
from gridmetric.parts import (
    decomposition, finest_parts, indecomposables, is_indecomposable, is_parting, is_whole,
    part_lattices, summands,
)

# What no function of this chapter takes for a vector of a lattice of rank 2.
NO_VECTORS = (
    (), (1,), (1, 2, 3), [1, 2], (True, 0), (1, None), ("a", "b"), "ab", None, 5, Grid(((1, 2),)),
    ((1, 2),), SQUARE,
)


def minus(v, x):
    return tuple(a - b for a, b in zip(v, x))


def least_decomposition(lattice, v, vectors):
    """The decomposition by the words of the interface, over vectors that have all x."""
    found = [x for x in vectors if x != v and plain_product(lattice, x, minus(v, x)) == 0]
    if not found:
        return None
    x = min(found, key=lambda one: (plain_norm(lattice, one), one))
    return x, minus(v, x)


def indecomposables_by_box(lattice, most):
    vectors = vectors_by_box(lattice, most)
    return tuple(v for v in vectors if least_decomposition(lattice, v, vectors) is None)


def parts_by_words(lattice):
    """The finest parting by the words of points 6.4 and 6.5."""
    most = max(lattice.gram.rows[k][k] for k in range(lattice.rank()))
    left = list(indecomposables_by_box(lattice, most))
    grids = []
    while left:
        met = [left.pop()]
        for v in met:
            joined = [w for w in left if plain_product(lattice, v, w) != 0]
            met.extend(joined)
            left = [w for w in left if w not in joined]
        h = Grid(met).hermite()[0]
        grids.append(tuple(row for row in h.rows if any(row)))
    return sorted(grids, key=lambda rows: (len(rows), rows))


def hermite_of(rows, width):
    h = Grid(rows, width).hermite()[0]
    return tuple(row for row in h.rows if any(row))


class DecompositionTest(unittest.TestCase):
    def test_all_vectors_of_a_box(self):
        for lattice in ORDINARY:
            if lattice.gram.rows[0][0] > 100:
                continue
            for v in list(lattice.box_vectors(3 - lattice.rank() // 2))[:60]:
                if any(v) and plain_norm(lattice, v) < 100:
                    vectors = vectors_by_box(lattice, plain_norm(lattice, v))
                    found = least_decomposition(lattice, v, vectors)
                    self.assertEqual(decomposition(lattice, v), found, (str(lattice), v))
                    self.assertIs(is_indecomposable(lattice, v), found is None)

    def test_examples_by_hand(self):
        self.assertEqual(decomposition(SQUARE, (1, 1)), ((0, 1), (1, 0)))
        self.assertEqual(decomposition(SQUARE, (2, 0)), ((1, -1), (1, 1)))
        self.assertIsNone(decomposition(SQUARE, (1, 0)))
        # 3 = t + (3 - t), and t (3 - t) is no square.
        self.assertIsNone(decomposition(SQUARE, (3, 0)))
        self.assertEqual(decomposition(SQUARE, (5, 0)), ((1, -2), (4, 2)))
        self.assertIsNone(decomposition(LINE, (12,)))
        self.assertEqual(decomposition(LONG_SQUARE, (-7, 4)), ((-2, -1), (-5, 5)))
        self.assertEqual(decomposition(UNIT_4, (1, 0, -1, 0)), ((0, 0, -1, 0), (1, 0, 0, 0)))

    def test_no_vector_of_rank_1_is_decomposable(self):
        for v in (1, -1, 2, 60, 10 ** 40):
            self.assertIsNone(decomposition(LINE, (v,)))
            self.assertIs(is_indecomposable(Lattice(((10000,),)), (v,)), True)

    def test_a_skew_basis(self):
        for lattice, skew, basis in pairs_of_bases(1):
            back = basis.inverse()
            for v in list(lattice.box_vectors(1))[:7]:
                if 0 < plain_norm(lattice, v) < 25:
                    vectors = vectors_by_box(lattice, plain_norm(lattice, v))
                    moved = [back.before(x) for x in vectors]
                    goal = back.before(v)
                    found = least_decomposition(skew, goal, moved)
                    self.assertEqual(decomposition(skew, goal), found)

    def test_a_vector_with_a_large_norm(self):
        self.assertIsNone(decomposition(SQUARE, (10007, 0)))
        x, y = decomposition(CUBE, (1001, 2, -3))
        self.assertEqual((minus((1001, 2, -3), x), CUBE.product(x, y)), (y, 0))

    def test_zero_and_what_is_no_vector(self):
        for act in (decomposition, is_indecomposable):
            for v in ((0, 0),) + NO_VECTORS:
                with self.assertRaises(Malformed):
                    act(SQUARE, v)
            with self.assertRaises(Malformed):
                act(LINE, (0,))
            with self.assertRaises(Malformed):
                act(UNIT_4, (0, 0, 0, 0))


class IndecomposablesTest(unittest.TestCase):
    def test_against_a_box(self):
        for lattice in SMALL + (ROOTS_4,):
            most = 40 if lattice.rank() < 3 else 10
            for most in (most, 3, 1):
                self.assertEqual(indecomposables(lattice, most), indecomposables_by_box(lattice, most))

    def test_known_ones(self):
        self.assertEqual(indecomposables(LINE, 9), ((-1,), (1,), (-2,), (2,), (-3,), (3,)))
        self.assertEqual(indecomposables(SQUARE, 5), ((-1, 0), (0, -1), (0, 1), (1, 0)))
        self.assertEqual(len(indecomposables(UNIT_4, 12)), 8)
        self.assertEqual(len(indecomposables(ROOTS_4, 12)), 24)

    def test_no_norms(self):
        for most in (0, -1, -50):
            self.assertEqual(indecomposables(SQUARE, most), ())
        self.assertEqual(indecomposables(HEXAGON, 1), ())

    def test_a_skew_basis(self):
        for lattice, skew, basis in pairs_of_bases(1):
            most = min(2 * lattice.gram.rows[0][0], 30)
            vectors = [basis.inverse().before(v) for v in indecomposables(lattice, most)]
            ordered = sorted(vectors, key=lambda v: (plain_norm(skew, v), v))
            self.assertEqual(indecomposables(skew, most), tuple(ordered))


class SummandsTest(unittest.TestCase):
    def by_words(self, lattice, v):
        if not any(v):
            return ()
        pair = decomposition(lattice, v)
        if pair is None:
            return (v,)
        return self.by_words(lattice, pair[0]) + self.by_words(lattice, pair[1])

    def test_the_summands_of_x_then_those_of_y(self):
        for lattice in SMALL:
            for v in list(lattice.box_vectors(2))[3:7] + [(2,) * lattice.rank()]:
                found = summands(lattice, v)
                self.assertEqual(found, self.by_words(lattice, v))
                self.assertEqual(tuple(map(sum, zip((0,) * lattice.rank(), *found))), v)
                self.assertTrue(all(is_indecomposable(lattice, x) for x in found))
                top = plain_norm(lattice, v)
                self.assertTrue(all(plain_norm(lattice, x) <= top for x in found))

    def test_examples_by_hand(self):
        self.assertEqual(summands(SQUARE, (1, 1)), ((0, 1), (1, 0)))
        self.assertEqual(summands(SQUARE, (2, 0)), ((0, -1), (1, 0), (0, 1), (1, 0)))
        self.assertEqual(summands(SQUARE, (3, 0)), ((3, 0),))
        self.assertEqual(summands(LINE, (-4,)), ((-4,),))

    def test_many_summands(self):
        v = (9, 8, -7, 5)
        found = summands(UNIT_4, v)
        self.assertEqual(tuple(map(sum, zip(*found))), v)
        # The norms of orthogonal summands add up, at each step.
        self.assertEqual(sum(map(UNIT_4.norm, found)), UNIT_4.norm(v))

    def test_zero(self):
        for lattice in (LINE, SQUARE, UNIT_4):
            self.assertEqual(summands(lattice, (0,) * lattice.rank()), ())

    def test_what_is_no_vector(self):
        for v in NO_VECTORS:
            with self.assertRaises(Malformed):
                summands(SQUARE, v)


class FinestPartsTest(unittest.TestCase):
    def test_the_example_of_the_document(self):
        lattice = Lattice(((1, 1), (1, 2)))
        self.assertEqual([grid.rows for grid in finest_parts(lattice)], [((1, -1),), ((1, 0),)])
        self.assertEqual([str(part) for part in part_lattices(lattice)], ["1", "1"])

    def test_the_words_of_the_document(self):
        for lattice in ORDINARY:
            if max(lattice.gram.rows[k][k] for k in range(lattice.rank())) <= 50:
                found = [grid.rows for grid in finest_parts(lattice)]
                self.assertEqual(found, parts_by_words(lattice), str(lattice))

    def test_known_parts(self):
        for lattice, sizes in (
            (LINE, [1]), (SQUARE, [1, 1]), (HEXAGON, [2]), (LONG_SQUARE, [1, 1]),
            (SKEW_SQUARE, [1, 1]), (CUBE, [1, 1, 1]), (UNIT_4, [1, 1, 1, 1]), (ROOTS_4, [4]),
            (HEXAGON + HEXAGON, [2, 2]), (HEXAGON + LINE, [1, 2]), (LINE + HEXAGON, [1, 2]),
            (Lattice(((1, 0, 0), (0, 1, 0), (0, 0, 10000))), [1, 1, 1]),
            (Lattice(((3, 1, 1, 1), (1, 3, 1, 1), (1, 1, 3, 1), (1, 1, 1, 9999))), [4]),
        ):
            self.assertEqual([len(grid) for grid in finest_parts(lattice)], sizes, str(lattice))
            self.assertIs(is_whole(lattice), len(sizes) == 1)

    def test_a_lattice_without_a_basis_of_its_roots(self):
        # All (a, b) with an even sum: the parts are not those of the square around it.
        even = SQUARE.spanned(Grid(((1, 1), (0, 2))))
        self.assertEqual([len(grid) for grid in finest_parts(even)], [1, 1])
        even = CUBE.spanned(Grid(((1, 0, 1), (0, 1, 1), (0, 0, 2))))
        self.assertEqual([len(grid) for grid in finest_parts(even)], [3])

    def test_the_sum_of_drawn_lattices_in_another_basis(self):
        source = random.Random(41)
        for ranks in ((1, 1), (1, 2), (2, 1), (2, 2), (1, 3), (3, 1), (1, 1, 2), (1, 1, 1, 1)):
            for equal in (False, True, False):
                lattices = [random_lattice(source, rank, 3) for rank in ranks]
                if equal and len(set(ranks)) == 1:
                    lattices = lattices[:1] * len(ranks)
                self.check_sum(source, lattices)

    def check_sum(self, source, lattices):
        n = sum(lattice.rank() for lattice in lattices)
        whole, parts = None, []
        for lattice in lattices:
            before = 0 if whole is None else whole.rank()
            for rows in parts_by_words(lattice):
                after = n - before - lattice.rank()
                parts.append([(0,) * before + row + (0,) * after for row in rows])
            whole = lattice if whole is None else whole + lattice
        skew, basis = skewed(source, whole)
        back = basis.inverse()
        moved = [hermite_of([back.before(row) for row in rows], n) for rows in parts]
        expected = sorted(moved, key=lambda rows: (len(rows), rows))
        found = finest_parts(skew)
        self.assertEqual([grid.rows for grid in found], expected)
        self.assertIs(is_parting(skew, found), True)
        self.assertIs(is_whole(skew), len(parts) == 1)

    def test_tuples_of_grids_in_hermite_form(self):
        for lattice in ORDINARY:
            found = finest_parts(lattice)
            self.assertIs(type(found), tuple)
            for grid in found:
                self.assertIsInstance(grid, Grid)
                self.assertEqual(grid.hermite()[0], grid)
            self.assertIs(is_parting(lattice, found), True)

    def test_part_lattices(self):
        for lattice in ORDINARY:
            parts = part_lattices(lattice)
            self.assertEqual(parts, tuple(lattice.spanned(grid) for grid in finest_parts(lattice)))
            self.assertTrue(all(is_whole(part) for part in parts))
        mixed = HEXAGON + Lattice(((3,),))
        self.assertEqual([str(part) for part in part_lattices(mixed)], ["3", "2 1; 1 2"])

    def test_a_part_whose_basis_in_hermite_form_is_too_large(self):
        lattice = Lattice(((118, -27, -21), (-27, 203, 71), (-21, 71, 26)))
        found = finest_parts(lattice)
        self.assertEqual([grid.rows for grid in found],
                         [((1, -3, 9),), ((3, -10, 0), (0, 0, 1))])
        self.assertGreater(lattice.norm((3, -10, 0)), 10000)
        with self.assertRaises(Refused) as caught:
            part_lattices(lattice)
        self.assertEqual(caught.exception.reason, "large")


class IsPartingTest(unittest.TestCase):
    def test_partings(self):
        first, second = Grid(((1, 0),)), Grid(((0, 1),))
        for grids in ((first, second), (second, first), (-first, second), (unit(2),)):
            self.assertIs(is_parting(SQUARE, grids), True)
        self.assertIs(is_parting(HEXAGON, (unit(2),)), True)
        self.assertIs(is_parting(LINE, (Grid(((-1,),)),)), True)
        high = Grid(((1, 2, 0), (0, 1, 0)))
        self.assertIs(is_parting(CUBE, (high, Grid(((0, 0, 1),)))), True)

    def test_what_is_no_parting(self):
        first, second = Grid(((1, 0),)), Grid(((0, 1),))
        for grids in (
            (), (first,), (first, first), (first, second, second), (first, Grid(((0, 2),))),
            (first, Grid(((1, 1),))), (unit(2), unit(2)), (first, second, Grid((), 2)),
            (Grid((), 2),), (Grid(((1,),)), Grid(((1,),))), (unit(3),), (unit(1),),
            (Grid(((1, 0, 0),)), Grid(((0, 1, 0),))), (Grid(((1, 0), (0, 1), (1, 1))),),
        ):
            self.assertIs(is_parting(SQUARE, grids), False)
        self.assertIs(is_parting(HEXAGON, (first, second)), False)

    def test_every_value(self):
        first, second = Grid(((1, 0),)), Grid(((0, 1),))
        for value in (
            None, 5, "ab", "", True, [], [first, second], first, (((1, 0),), ((0, 1),)),
            (first, ((0, 1),)), (None,), ((),), SQUARE, (SQUARE,), ("a", first), (first, second, 5),
        ):
            self.assertIs(is_parting(SQUARE, value), False)


if __name__ == "__main__":
    unittest.main()
