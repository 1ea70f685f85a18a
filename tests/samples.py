"""Matrices for the tests, the same ones in every run, and slow ways to check answers."""

import math
import random
from itertools import combinations, permutations

from gridmetric.grid import Grid, unit

# Each kind of matrix that the document names as an edge, beside ordinary ones.
EDGES = (
    Grid(()),
    Grid((), 3),
    Grid(((), ())),
    Grid(((0,),)),
    Grid(((-7,),)),
    Grid(((0, 0, 0), (0, 0, 0))),
    Grid(((0, 0), (0, 0), (0, 5))),
    Grid(((0, 0, 4), (0, 6, 0), (0, 0, 0))),
    Grid(((1, 2, 3), (2, 4, 6), (-3, -6, -9))),
    Grid(((0, 2), (0, 4), (0, -6))),
    Grid(((6, 10, 15),)),
    Grid(((6,), (10,), (15,))),
    Grid(((2, 0, 0), (0, 3, 0), (0, 0, 5))),
    Grid(((4, 0, 0), (0, 6, 0), (0, 0, 0))),
    Grid(((5, 3), (-3, 2))),
)


def random_grid(source, height, width, bound):
    rows = [[source.randint(-bound, bound) for _ in range(width)] for _ in range(height)]
    return Grid(rows, width)


def random_unimodular(source, size):
    """A product of matrices that add a multiple of a row to another one, and of a swap."""
    found = unit(size)
    for _ in range(3 * size):
        rows = [list(row) for row in unit(size).rows]
        i, j = source.randrange(size), source.randrange(size)
        rows[i][j] = -1 if i == j else source.randint(-3, 3)
        found = found * Grid(rows, size)
    order = list(range(size))
    source.shuffle(order)
    return Grid([found.rows[k] for k in order], size)


def samples():
    """Edges, and matrices of many sizes: also of dependent rows, and of long items."""
    source = random.Random(20)
    found = list(EDGES)
    for height in range(1, 6):
        for width in range(1, 6):
            for bound in (1, 4, 100):
                found.append(random_grid(source, height, width, bound))
    for rank in (1, 2, 3):
        left = random_grid(source, 4, rank, 5)
        found.append(left * random_grid(source, rank, 4, 5))
    found.append(random_grid(source, 4, 4, 10 ** 300))
    found.append(random_grid(source, 3, 4, 10 ** 200))
    found.append(random_grid(source, 4, 2, 10 ** 200))
    return found


def plain_determinant(rows):
    """The sum over all orders of the columns."""
    total = 0
    for order in permutations(range(len(rows))):
        swaps = sum(order[i] > order[j] for i, j in combinations(range(len(rows)), 2))
        total += (-1) ** swaps * math.prod(rows[k][order[k]] for k in range(len(rows)))
    return total


def minors_content(grid, size):
    """The greatest common divisor of all minors of a size."""
    minors = [
        plain_determinant([[row[k] for k in columns] for row in rows])
        for rows in combinations(grid.rows, size)
        for columns in combinations(range(grid.width), size)
    ]
    return math.gcd(*minors)
