import math
import random
import unittest

from samples import minors_content, random_grid, random_unimodular, samples

from gridmetric.grid import Grid, diagonal, unit

LONG = 10 ** 250 + 7


def divides(a, b):
    """0 is a divisor of 0 alone."""
    return b == 0 if a == 0 else b % a == 0


class SmithTest(unittest.TestCase):
    def check_form(self, grid):
        found = grid.smith()
        self.assertIsInstance(found, tuple)
        d, u, v = found
        self.assertEqual((len(d), d.width), (len(grid), grid.width))
        for i, row in enumerate(d.rows):
            self.assertTrue(all(item == 0 for k, item in enumerate(row) if k != i))
        items = [d.rows[k][k] for k in range(min(len(d), d.width))]
        self.assertTrue(all(item >= 0 for item in items))
        self.assertTrue(all(divides(one, two) for one, two in zip(items, items[1:])))
        self.assertTrue(u.is_unimodular())
        self.assertTrue(v.is_unimodular())
        self.assertEqual((len(u), len(v)), (len(grid), grid.width))
        self.assertEqual(d, u * grid * v)
        self.assertEqual(grid.factors(), tuple(items))

    def test_the_shape_and_the_unimodular_matrices(self):
        for grid in samples():
            self.check_form(grid)

    def test_diagonals_whose_items_do_not_divide_each_other(self):
        for items in ((2, 3), (6, 4), (4, 6, 9), (0, 5), (0, 0, 3), (6, 10, 15), (-2, 3, -5, 7)):
            self.check_form(diagonal(items))
            for width in (len(items), len(items) + 2):
                rows = [row + (0,) * (width - len(items)) for row in diagonal(items)]
                self.check_form(Grid(rows))
                self.check_form(Grid(rows).transposed())

    def test_the_example(self):
        self.assertEqual(Grid(((2, 4), (4, 2))).factors(), (2, 6))

    def test_factors_that_are_known(self):
        cases = (
            (Grid(()), ()), (Grid((), 3), ()), (Grid(((), ())), ()),
            (Grid(((0,),)), (0,)), (Grid(((-7,),)), (7,)), (unit(3), (1, 1, 1)),
            (Grid(((0, 0), (0, 0))), (0, 0)), (Grid(((0, 0), (0, -5))), (5, 0)),
            (diagonal((2, 3)), (1, 6)), (diagonal((4, 6, 0)), (2, 12, 0)),
            (Grid(((6, 10, 15),)), (1,)), (Grid(((6,), (10,))), (2,)),
            (Grid(((1, 2), (2, 4), (3, 6))), (1, 0)),
            (diagonal((2 * LONG, 3 * LONG)), (LONG, 6 * LONG)),
        )
        for grid, expected in cases:
            self.assertEqual(grid.factors(), expected)

    def test_products_of_factors_are_the_contents_of_the_minors(self):
        for grid in samples():
            factors = grid.factors()
            self.assertEqual(len(factors), min(len(grid), grid.width))
            for size in range(len(factors) + 1):
                self.assertEqual(math.prod(factors[:size]), minors_content(grid, size))

    def test_the_factors_of_the_transposed_matrix(self):
        for grid in samples():
            self.assertEqual(grid.transposed().factors(), grid.factors())

    def test_the_factors_after_products_with_unimodular_matrices(self):
        source = random.Random(9)
        for grid in samples():
            if len(grid) > 0 and grid.width > 0:
                left = random_unimodular(source, len(grid))
                right = random_unimodular(source, grid.width)
                self.assertEqual((left * grid * right).factors(), grid.factors())

    def test_equal_arguments_give_equal_results(self):
        for grid in samples():
            self.assertEqual(grid.smith(), Grid(grid.rows, grid.width).smith())

    def test_large_matrices_end_soon(self):
        source = random.Random(10)
        for height, width, bound in ((4, 4, 10 ** 600), (10, 10, 10 ** 30), (20, 20, 5), (25, 3, 99)):
            grid = random_grid(source, height, width, bound)
            d, u, v = grid.smith()
            self.assertEqual(d, u * grid * v)


class IsPrimitiveTest(unittest.TestCase):
    def test_primitive_matrices(self):
        grids = (
            Grid(()), Grid((), 3), unit(4), Grid(((1, 0, 0),)), Grid(((6, 10, 15),)),
            Grid(((5, 3), (3, 2))), Grid(((1, 2, 3), (0, 1, 4))), Grid(((LONG, LONG + 1),)),
        )
        for grid in grids:
            self.assertIs(grid.is_primitive(), True)

    def test_other_matrices(self):
        grids = (
            Grid(((0,),)), Grid(((2,),)), Grid(((2, 4),)), Grid(((0, 0),)), diagonal((1, 2)),
            Grid(((1, 2), (2, 4))), Grid(((1, 1, 0), (1, -1, 0))), Grid(((LONG, LONG),)),
        )
        for grid in grids:
            self.assertIs(grid.is_primitive(), False)

    def test_more_rows_than_columns(self):
        for grid in (Grid(((1,), (0,))), Grid(((),)), Grid(((1, 0), (0, 1), (0, 0)))):
            self.assertIs(grid.is_primitive(), False)

    def test_exactly_if_all_factors_are_1(self):
        source = random.Random(11)
        grids = samples() + [random_grid(source, 2, 3, 2) for _ in range(60)]
        for grid in grids:
            expected = len(grid) <= grid.width and all(d == 1 for d in grid.factors())
            self.assertIs(grid.is_primitive(), expected)

    def test_parts_of_unimodular_matrices(self):
        source = random.Random(12)
        for size in range(1, 6):
            whole = random_unimodular(source, size)
            for many in range(size + 1):
                self.assertIs(Grid(whole.rows[:many], size).is_primitive(), True)


if __name__ == "__main__":
    unittest.main()
