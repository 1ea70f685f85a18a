"""Lattices for the tests, the same ones in every run, and slow ways to check answers."""

import math
import random
from fractions import Fraction
from itertools import product

from samples import minors_content, random_grid, random_unimodular

from gridmetric.errors import Malformed, Refused
from gridmetric.grid import Grid, unit
from gridmetric.lattice import Lattice

LINE = Lattice(((1,),))
SQUARE = Lattice(((1, 0), (0, 1)))
HEXAGON = Lattice(((2, 1), (1, 2)))
LONG_SQUARE = Lattice(((1, 0), (0, 2)))
SKEW_SQUARE = Lattice(((5, 3), (3, 2)))
CUBE = Lattice(unit(3))
UNIT_4 = Lattice(unit(4))
ROOTS_4 = Lattice(((2, -1, 0, 0), (-1, 2, -1, -1), (0, -1, 2, 0), (0, -1, 0, 2)))

# Ranks 1 to 4; lattices with many maps and with few; with products above and below 0; with
# a diagonal that does not ascend; and with one vector that is far longer than the others.
ORDINARY = (
    LINE,
    Lattice(((7,),)),
    Lattice(((10000,),)),
    SQUARE,
    HEXAGON,
    LONG_SQUARE,
    SKEW_SQUARE,
    Lattice(((9, 4), (4, 3))),
    Lattice(((2, 0), (0, 50))),
    CUBE,
    Lattice(((3, 1, 1), (1, 3, -1), (1, -1, 3))),
    Lattice(((2, -1, 0), (-1, 2, -1), (0, -1, 2))),
    Lattice(((6, 2, -3), (2, 4, 1), (-3, 1, 5))),
    UNIT_4,
    ROOTS_4,
    Lattice(((2, 1, 0, 0), (1, 2, 0, 0), (0, 0, 3, 1), (0, 0, 1, 3))),
    Lattice(((4, 1, 2, 0), (1, 3, 1, 1), (2, 1, 5, -1), (0, 1, -1, 2))),
)

# Those without a large group: what they are asked takes little time.
SMALL = tuple(lattice for lattice in ORDINARY if lattice not in (UNIT_4, ROOTS_4))


def random_lattice(source, rank, bound):
    """A lattice whose basis vectors are rows of whole numbers up to a bound."""
    while True:
        rows = random_grid(source, rank, rank, bound)
        try:
            return Lattice(rows * rows.transposed())
        except (Malformed, Refused):
            continue


def skewed(source, lattice):
    """The same lattice in another basis, and that basis."""
    while True:
        basis = random_unimodular(source, lattice.rank())
        try:
            return lattice.changed(basis), basis
        except Refused:
            continue


def pairs_of_bases(many):
    """Lattices, each with the same lattice in a skew basis, and that basis.

    The skew bases often have large items.
    """
    source = random.Random(31)
    found = []
    for rank in (1, 2, 3, 4):
        for bound in (1, 2, 5):
            for _ in range(many):
                lattice = random_lattice(source, rank, bound)
                found.append((lattice, *skewed(source, lattice)))
    return found


def plain_norm(lattice, v):
    """The norm by the words of the document."""
    places = range(lattice.rank())
    return sum(v[i] * lattice.gram.rows[i][j] * v[j] for i in places for j in places)


def plain_product(lattice, v, w):
    places = range(lattice.rank())
    return sum(v[i] * lattice.gram.rows[i][j] * w[j] for i in places for j in places)


def near_by_box(lattice, a, d, most):
    """All (norm of d v - a, v) up to a norm, from a box that has all of them.

    The square of an item of d v - a is at most the norm times the item at the same place
    of the inverse of the Gram matrix (Cauchy and Schwarz).
    """
    if most < 0:
        return []
    adjugate = lattice.gram.adjugate().rows
    sides = []
    for k, x in enumerate(a):
        side = math.isqrt(most * adjugate[k][k] // lattice.determinant())
        sides.append(range(math.floor(Fraction(x - side, d)), math.ceil(Fraction(x + side, d)) + 1))
    found = []
    for v in product(*sides):
        norm = plain_norm(lattice, tuple(d * y - x for x, y in zip(a, v)))
        if norm <= most:
            found.append((norm, v))
    return sorted(found)


def vectors_by_box(lattice, most):
    """All vectors other than zero up to a norm."""
    return [v for _, v in near_by_box(lattice, (0,) * lattice.rank(), 1, most) if any(v)]


def levels_by_box(lattice):
    """The levels by the words of point 4.3, over a box.

    A mark begins with the norm; so if the box has a vector that continues a tuple, no
    vector outside has a lesser mark.
    """
    vectors = vectors_by_box(lattice, max(lattice.gram.rows[k][k] for k in range(lattice.rank())))
    found = []
    tuples = [()]
    for size in range(1, lattice.rank() + 1):
        marks = {}
        for start in tuples:
            for v in vectors:
                longer = start + (v,)
                mark = (plain_norm(lattice, v),) + tuple(plain_product(lattice, b, v) for b in start)
                if not marks or mark <= min(marks):
                    if minors_content(Grid(longer), size) == 1:
                        marks.setdefault(mark, []).append(longer)
        tuples = sorted(marks[min(marks)])
        found.append((min(marks), tuple(tuples)))
    return tuple(found)
