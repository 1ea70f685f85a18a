import random
import unittest

from samples import EDGES, plain_determinant, random_grid, random_unimodular, samples

from gridmetric.errors import Malformed, Refused
from gridmetric.grid import Grid, blocks, diagonal, unit

LONG = 10 ** 250 + 7
A = Grid(((1, 2, 3), (4, 5, 6)))
B = Grid(((0, -1, 2), (7, 0, -3)))


class CreationTest(unittest.TestCase):
    def test_fields_of_lists_and_tuples(self):
        for rows in ([[1, -2], [3, LONG]], ((1, -2), (3, LONG)), [(1, -2), [3, LONG]]):
            grid = Grid(rows)
            self.assertEqual(grid.rows, ((1, -2), (3, LONG)))
            self.assertIs(type(grid.rows), tuple)
            self.assertTrue(all(type(row) is tuple for row in grid.rows))
            self.assertEqual(grid.width, 2)

    def test_the_width_is_that_of_the_first_row_or_0(self):
        self.assertEqual(Grid(((1, 2, 3),)).width, 3)
        self.assertEqual(Grid(()).width, 0)
        self.assertEqual(Grid([]).rows, ())
        self.assertEqual(Grid(((), ())).width, 0)
        self.assertEqual(Grid(((1, 2),), None).width, 2)

    def test_no_rows_with_a_width(self):
        grid = Grid((), 3)
        self.assertEqual((grid.rows, grid.width, len(grid)), ((), 3, 0))

    def test_a_width_that_fits(self):
        self.assertEqual(Grid(((1, 2), (3, 4)), 2), Grid(((1, 2), (3, 4))))
        self.assertEqual(Grid(((),), width=0).width, 0)

    def test_items_that_are_no_integers(self):
        for item in (True, False, None, "1", 1.0, (1,), [1], b"1"):
            for rows in (((item,),), ((1, 2), (item, 3)), [[1, item]]):
                with self.assertRaises(Malformed):
                    Grid(rows)

    def test_rows_of_another_length(self):
        for rows in (((1, 2), (3,)), ((1,), (2, 3)), ((), (1,)), ((1,), ())):
            with self.assertRaises(Malformed):
                Grid(rows)

    def test_rows_of_another_length_than_the_width(self):
        for rows, width in ((((1, 2),), 3), (((1, 2),), 1), (((),), 1), (((1,), (2,)), 0)):
            with self.assertRaises(Malformed):
                Grid(rows, width)

    def test_what_is_no_rows_at_all(self):
        for rows in (None, 3, "12", ((1, 2), 3), ("ab",), (None,)):
            with self.assertRaises(Malformed):
                Grid(rows)

    def test_what_is_no_width(self):
        for width in (-1, True, "2"):
            with self.assertRaises(Malformed):
                Grid((), width)

    def test_a_grid_does_not_change_with_the_list(self):
        row = [1, 2]
        rows = [row, [3, 4]]
        grid = Grid(rows)
        row[0] = 9
        rows.append([5, 6])
        self.assertEqual(grid.rows, ((1, 2), (3, 4)))


class BasicsTest(unittest.TestCase):
    def test_equality(self):
        self.assertTrue(Grid([[1, 2]]) == Grid(((1, 2),)))
        self.assertFalse(Grid(((1, 2),)) != Grid(((1, 2),)))
        self.assertFalse(Grid(((1, 2),)) == Grid(((2, 1),)))
        self.assertFalse(Grid(((1, 2),)) == Grid(((1,), (2,))))

    def test_equality_without_rows_is_that_of_the_width(self):
        self.assertTrue(Grid((), 2) == Grid([], 2))
        self.assertFalse(Grid((), 2) == Grid((), 3))
        self.assertFalse(Grid(()) == Grid(((),)))

    def test_a_grid_equals_no_other_value(self):
        for value in (((1, 2),), [[1, 2]], None, 0, "x"):
            self.assertFalse(Grid(((1, 2),)) == value)
            self.assertTrue(Grid(((1, 2),)) != value)

    def test_len_and_iteration(self):
        self.assertEqual(len(A), 2)
        self.assertEqual(list(A), [(1, 2, 3), (4, 5, 6)])
        self.assertEqual([row for row in Grid((), 4)], [])

    def test_is_square(self):
        for grid in (Grid(()), Grid(((1,),)), Grid(((1, 2), (3, 4)))):
            self.assertIs(grid.is_square(), True)
        for grid in (A, A.transposed(), Grid((), 1), Grid(((),))):
            self.assertIs(grid.is_square(), False)


class ArithmeticTest(unittest.TestCase):
    def test_sums_and_differences(self):
        self.assertEqual((A + B).rows, ((1, 1, 5), (11, 5, 3)))
        self.assertEqual((A - B).rows, ((1, 3, 1), (-3, 5, 9)))
        self.assertEqual(Grid((), 3) + Grid((), 3), Grid((), 3))
        self.assertEqual(Grid((), 3) - Grid((), 3), Grid((), 3))
        self.assertEqual(Grid(((),)) + Grid(((),)), Grid(((),)))

    def test_negation_and_multiples(self):
        self.assertEqual((-B).rows, ((0, 1, -2), (-7, 0, 3)))
        self.assertEqual(B.scaled(-2).rows, ((0, 2, -4), (-14, 0, 6)))
        self.assertEqual(B.scaled(0), Grid(((0, 0, 0), (0, 0, 0))))
        self.assertEqual(B.scaled(LONG).rows[1][2], -3 * LONG)
        self.assertEqual(-Grid((), 2), Grid((), 2))
        self.assertEqual(Grid((), 2).scaled(5), Grid((), 2))

    def test_products(self):
        self.assertEqual((A * B.transposed()).rows, ((4, -2), (7, 10)))
        self.assertEqual((Grid(((LONG,),)) * Grid(((LONG,),))).rows, ((LONG * LONG,),))
        self.assertEqual(unit(2) * A, A)
        self.assertEqual(A * unit(3), A)

    def test_products_without_rows_or_columns(self):
        self.assertEqual(Grid((), 2) * A, Grid((), 3))
        self.assertEqual(Grid(((), ())) * Grid((), 3), Grid(((0, 0, 0), (0, 0, 0))))
        self.assertEqual(A * Grid(((), (), ())), Grid(((), ())))

    def test_sizes_that_do_not_fit(self):
        others = (A.transposed(), Grid(()), Grid((), 3), Grid(((1, 2, 3),)), Grid(((1,), (2,))))
        for other in others:
            for act in (lambda x: A + x, lambda x: A - x, lambda x: x + A, lambda x: x - A):
                with self.assertRaises(Malformed):
                    act(other)
        for one, two in ((A, B), (A, unit(2)), (unit(3), A), (Grid(()), A), (A, Grid(()))):
            with self.assertRaises(Malformed):
                one * two

    def test_other_values_than_matrices_are_not_added_or_multiplied(self):
        for value in (2, ((1, 2, 3), (4, 5, 6)), None):
            for act in (lambda x: A + x, lambda x: A - x, lambda x: A * x):
                with self.assertRaises(TypeError):
                    act(value)

    def test_transposed(self):
        self.assertEqual(A.transposed().rows, ((1, 4), (2, 5), (3, 6)))
        self.assertEqual(Grid((), 3).transposed(), Grid(((), (), ())))
        self.assertEqual(Grid(((), ())).transposed(), Grid((), 2))
        for grid in samples():
            self.assertEqual(grid.transposed().transposed(), grid)

    def test_products_with_rows(self):
        self.assertEqual(A.times((1, 0, -1)), (-2, -2))
        self.assertEqual(A.before((2, -1)), (-2, -1, 0))
        self.assertEqual(A.times([1, 1, 1]), (6, 15))
        self.assertEqual(Grid((), 2).times((1, 2)), ())
        self.assertEqual(Grid((), 2).before(()), (0, 0))
        self.assertEqual(Grid(((), ())).times(()), (0, 0))
        self.assertEqual(Grid(((), ())).before((1, 2)), ())

    def test_rows_of_another_length(self):
        for row in ((), (1,), (1, 2), (1, 2, 3, 4)):
            with self.assertRaises(Malformed):
                A.times(row)
        for row in ((), (1,), (1, 2, 3)):
            with self.assertRaises(Malformed):
                A.before(row)

    def test_stacked(self):
        self.assertEqual(A.stacked(B).rows, A.rows + B.rows)
        self.assertEqual(A.stacked(Grid((), 3)), A)
        self.assertEqual(Grid((), 3).stacked(A), A)
        for other in (unit(2), Grid(()), Grid(((1, 2, 3, 4),))):
            with self.assertRaises(Malformed):
                A.stacked(other)

    def test_nothing_changes(self):
        one, two = Grid(A.rows), Grid(B.rows)
        one + two, one - two, -one, one.scaled(3), one.stacked(two), one.transposed()
        one * two.transposed(), one.times((1, 2, 3)), one.before((1, 2))
        one.hermite(), one.smith(), one.rank(), one.factors(), one.is_primitive()
        one.coefficients((1, 2, 3))
        self.assertEqual((one, two), (A, B))


class MakersTest(unittest.TestCase):
    def test_unit(self):
        self.assertEqual(unit(0), Grid(()))
        self.assertEqual(unit(1).rows, ((1,),))
        self.assertEqual(unit(3).rows, ((1, 0, 0), (0, 1, 0), (0, 0, 1)))

    def test_diagonal(self):
        self.assertEqual(diagonal(()), Grid(()))
        self.assertEqual(diagonal([2, -3]).rows, ((2, 0), (0, -3)))
        self.assertEqual(diagonal((0, LONG)).rows, ((0, 0), (0, LONG)))

    def test_blocks(self):
        found = blocks(A, Grid(((7,), (8,))))
        expected = ((1, 2, 3, 0), (4, 5, 6, 0), (0, 0, 0, 7), (0, 0, 0, 8))
        self.assertEqual(found.rows, expected)

    def test_blocks_without_rows_or_columns(self):
        self.assertEqual(blocks(Grid(()), A), A)
        self.assertEqual(blocks(A, Grid(())), A)
        self.assertEqual(blocks(Grid((), 1), Grid(((5,),))), Grid(((0, 5),)))
        self.assertEqual(blocks(Grid(((5,),)), Grid(((), ()))), Grid(((5,), (0,), (0,))))
        self.assertEqual(blocks(Grid((), 2), Grid((), 3)), Grid((), 5))


class DeterminantTest(unittest.TestCase):
    def test_small_sizes(self):
        self.assertEqual(Grid(()).determinant(), 1)
        self.assertEqual(Grid(((-6,),)).determinant(), -6)
        self.assertEqual(Grid(((1, 2), (3, 4))).determinant(), -2)
        self.assertEqual(Grid(((0, 1), (1, 0))).determinant(), -1)
        self.assertEqual(Grid(((0, 0, 2), (3, 0, 0), (0, 5, 0))).determinant(), 30)
        self.assertEqual(Grid(((1, 2), (2, 4))).determinant(), 0)

    def test_by_the_sum_over_all_orders(self):
        source = random.Random(3)
        for size in range(6):
            for bound in (1, 9, 10 ** 100):
                for _ in range(8):
                    grid = random_grid(source, size, size, bound)
                    self.assertEqual(grid.determinant(), plain_determinant(grid.rows))

    def test_long_items(self):
        self.assertEqual(diagonal((LONG, -LONG, LONG, 3)).determinant(), -3 * LONG ** 3)

    def test_not_square(self):
        for grid in (A, A.transposed(), Grid((), 1), Grid(((),))):
            with self.assertRaises(Malformed):
                grid.determinant()
            with self.assertRaises(Malformed):
                grid.adjugate()


class AdjugateTest(unittest.TestCase):
    def test_sizes_0_and_1(self):
        self.assertEqual(Grid(()).adjugate(), Grid(()))
        for item in (0, 5, -8):
            self.assertEqual(Grid(((item,),)).adjugate(), Grid(((1,),)))

    def test_size_2(self):
        self.assertEqual(Grid(((1, 2), (3, 4))).adjugate().rows, ((4, -2), (-3, 1)))

    def test_singular_matrices_have_their_minors_too(self):
        grid = Grid(((1, 2, 3), (4, 5, 6), (7, 8, 9)))
        self.assertEqual(grid.adjugate().rows, ((-3, 6, -3), (6, -12, 6), (-3, 6, -3)))
        self.assertEqual(Grid(((0, 0), (0, 0))).adjugate().rows, ((0, 0), (0, 0)))
        self.assertEqual(Grid(((0, 0), (0, 7))).adjugate().rows, ((7, 0), (0, 0)))

    def test_both_products_with_the_matrix(self):
        source = random.Random(4)
        grids = [grid for grid in samples() if grid.is_square()]
        grids += [random_grid(source, size, size, 6) for size in range(7)]
        for grid in grids:
            found = grid.adjugate()
            expected = unit(len(grid)).scaled(grid.determinant())
            self.assertEqual(grid * found, expected)
            self.assertEqual(found * grid, expected)


class UnimodularTest(unittest.TestCase):
    def test_is_unimodular(self):
        for grid in (Grid(()), unit(3), Grid(((-1,),)), Grid(((0, 1), (1, 0))), Grid(((5, 3), (3, 2)))):
            self.assertIs(grid.is_unimodular(), True)
        for grid in (Grid(((0,),)), Grid(((2,),)), Grid(((1, 1), (1, 1))), Grid(((1, 1), (1, -1)))):
            self.assertIs(grid.is_unimodular(), False)

    def test_what_is_not_square_is_not(self):
        for grid in (Grid(((1, 0),)), Grid(((1,), (0,))), Grid((), 1), Grid(((),))):
            self.assertIs(grid.is_unimodular(), False)

    def test_inverse(self):
        source = random.Random(5)
        self.assertEqual(Grid(()).inverse(), Grid(()))
        self.assertEqual(Grid(((-1,),)).inverse(), Grid(((-1,),)))
        self.assertEqual(Grid(((5, 3), (3, 2))).inverse().rows, ((2, -3), (-3, 5)))
        for size in range(1, 6):
            for _ in range(5):
                grid = random_unimodular(source, size)
                self.assertEqual(grid * grid.inverse(), unit(size))
                self.assertEqual(grid.inverse() * grid, unit(size))

    def test_what_is_not_unimodular_has_none(self):
        for grid in EDGES[1:] + (A, diagonal((1, 2)), diagonal((1, 0))):
            with self.assertRaises(Refused) as caught:
                grid.inverse()
            self.assertEqual(caught.exception.reason, "unimodular")


if __name__ == "__main__":
    unittest.main()
