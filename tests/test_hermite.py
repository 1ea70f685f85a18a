import random
import unittest

from samples import minors_content, random_grid, random_unimodular, samples

from gridmetric.grid import Grid, diagonal, unit

LONG = 10 ** 250 + 7


def is_hermite(grid):
    """Point 1.3, word by word."""
    pivots = [next((k for k, item in enumerate(row) if item), None) for row in grid.rows]
    places = [k for k in pivots if k is not None]
    if pivots != places + [None] * (len(pivots) - len(places)):
        return False
    if places != sorted(set(places)):
        return False
    for at, column in enumerate(places):
        pivot = grid.rows[at][column]
        if pivot <= 0:
            return False
        if not all(0 <= row[column] < pivot for row in grid.rows[:at]):
            return False
    return True


class HermiteTest(unittest.TestCase):
    def test_the_example(self):
        self.assertEqual(Grid(((2, 4), (3, 5))).hermite()[0].rows, ((1, 1), (0, 2)))

    def test_forms_that_are_known(self):
        cases = (
            (((4,), (6,)), ((2,), (0,))),
            (((-3,),), ((3,),)),
            (((0, 0), (0, -5)), ((0, 5), (0, 0))),
            (((0, 3), (2, 0)), ((2, 0), (0, 3))),
            (((1, 7), (0, 3)), ((1, 1), (0, 3))),
            (((1, -1), (0, 3)), ((1, 2), (0, 3))),
            (((1, 2, 3), (2, 4, 6)), ((1, 2, 3), (0, 0, 0))),
            (((0, 0, 2), (0, 0, 3)), ((0, 0, 1), (0, 0, 0))),
        )
        for rows, expected in cases:
            self.assertEqual(Grid(rows).hermite()[0].rows, expected)

    def test_without_rows_or_columns(self):
        self.assertEqual(Grid(()).hermite(), (Grid(()), Grid(())))
        self.assertEqual(Grid((), 3).hermite(), (Grid((), 3), Grid(())))
        h, u = Grid(((), ())).hermite()
        self.assertEqual(h, Grid(((), ())))
        self.assertTrue(u.is_unimodular())
        self.assertEqual(len(u), 2)

    def test_the_shape_and_the_unimodular_matrix(self):
        for grid in samples():
            found = grid.hermite()
            self.assertIsInstance(found, tuple)
            h, u = found
            self.assertEqual((len(h), h.width), (len(grid), grid.width))
            self.assertTrue(is_hermite(h))
            self.assertTrue(u.is_unimodular())
            self.assertEqual(len(u), len(grid))
            self.assertEqual(h, u * grid)

    def test_the_form_belongs_to_the_lattice_of_the_rows(self):
        source = random.Random(6)
        for grid in samples():
            if len(grid) > 0:
                moved = random_unimodular(source, len(grid)) * grid
                self.assertEqual(moved.hermite()[0], grid.hermite()[0])

    def test_the_form_of_a_form_is_the_form(self):
        for grid in samples():
            h = grid.hermite()[0]
            self.assertEqual(h.hermite()[0], h)

    def test_equal_arguments_give_equal_results(self):
        for grid in samples():
            self.assertEqual(grid.hermite(), Grid(grid.rows, grid.width).hermite())


class RankTest(unittest.TestCase):
    def test_ranks_that_are_known(self):
        cases = (
            (Grid(()), 0), (Grid((), 3), 0), (Grid(((), ())), 0), (Grid(((0, 0),)), 0),
            (unit(4), 4), (Grid(((1, 2), (2, 4))), 1), (Grid(((0, 3), (0, 0), (0, 1))), 1),
            (Grid(((1, 2, 3), (4, 5, 6), (7, 8, 9))), 2), (diagonal((LONG, 0, 1)), 2),
        )
        for grid, expected in cases:
            self.assertEqual(grid.rank(), expected)

    def test_it_counts_the_rows_of_the_form_and_the_minors(self):
        for grid in samples():
            rank = grid.rank()
            self.assertEqual(rank, sum(any(row) for row in grid.hermite()[0]))
            self.assertEqual(rank, grid.transposed().rank())
            self.assertNotEqual(minors_content(grid, rank), 0)
            self.assertEqual(minors_content(grid, rank + 1), 0)


class CoefficientsTest(unittest.TestCase):
    def test_rows_in_the_lattice(self):
        grid = Grid(((2, 0), (0, 3)))
        self.assertEqual(grid.coefficients((4, -9)), (2, -3))
        self.assertEqual(grid.coefficients((0, 0)), (0, 0))
        self.assertEqual(grid.coefficients([-2, 3]), (-1, 1))

    def test_rows_not_in_the_lattice(self):
        grid = Grid(((2, 0), (0, 3)))
        for row in ((1, 0), (0, 1), (2, 2), (-1, 3)):
            self.assertIsNone(grid.coefficients(row))
        self.assertIsNone(Grid(((1, 2, 3),)).coefficients((1, 2, 4)))
        self.assertIsNone(Grid(((0, 0),)).coefficients((0, 1)))

    def test_rows_of_another_length(self):
        for row in ((), (2,), (2, 0, 0)):
            self.assertIsNone(Grid(((2, 0), (0, 3))).coefficients(row))
        self.assertIsNone(Grid((), 2).coefficients((0, 0, 0)))
        self.assertIsNone(Grid((), 2).coefficients(()))

    def test_without_rows_or_columns(self):
        self.assertEqual(Grid(()).coefficients(()), ())
        self.assertEqual(Grid((), 2).coefficients((0, 0)), ())
        self.assertIsNone(Grid((), 2).coefficients((0, 1)))
        self.assertEqual(len(Grid(((), ())).coefficients(())), 2)

    def test_dependent_rows(self):
        for grid in (Grid(((6,), (10,), (15,))), Grid(((0,), (-1,), (0,)))):
            found = grid.coefficients((LONG,))
            self.assertEqual(len(found), 3)
            self.assertEqual(grid.before(found), (LONG,))

    def test_each_combination_is_found(self):
        source = random.Random(7)
        for grid in samples():
            row = grid.before([source.randint(-9, 9) for _ in grid])
            found = grid.coefficients(row)
            self.assertIs(type(found), tuple)
            self.assertEqual(len(found), len(grid))
            self.assertEqual(grid.before(found), row)

    def test_none_exactly_if_the_row_makes_the_lattice_larger(self):
        source = random.Random(8)
        for grid in samples():
            for _ in range(3):
                row = random_grid(source, 1, grid.width, 4).rows[0]
                form = [top for top in grid.hermite()[0] if any(top)]
                longer = [top for top in grid.stacked(Grid((row,))).hermite()[0] if any(top)]
                self.assertEqual(grid.coefficients(row) is None, form != longer)


if __name__ == "__main__":
    unittest.main()
