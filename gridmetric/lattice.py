"""Lattices, given by their Gram matrices (chapter 2)."""

from gridmetric.boxes import box_tuples
from gridmetric.errors import Malformed, NoText, Refused
from gridmetric.grid import Grid, blocks
from gridmetric.minors import determinant_of
from gridmetric.whole import content, dot, is_integer
from gridmetric.words import is_number

MOST_ROWS = 4
MOST = 10000
MOST_DIGITS = 5


class Lattice:
    """A lattice of rank 1 to 4 with a positive definite Gram matrix, that never changes."""

    def __init__(self, gram):
        self.gram = checked_gram(gram)

    def __eq__(self, other):
        return isinstance(other, Lattice) and self.gram == other.gram

    def __str__(self):
        return "; ".join([" ".join([str(item) for item in row]) for row in self.gram.rows])

    def __contains__(self, x):
        if not isinstance(x, tuple) or len(x) != self.rank():
            return False
        return all([is_integer(item) for item in x])

    def __add__(self, other):
        if not isinstance(other, Lattice):
            return NotImplemented
        return Lattice(blocks(self.gram, other.gram))

    def rank(self):
        """Return the number of the basis vectors."""
        return len(self.gram.rows)

    def determinant(self):
        """Return the determinant of the Gram matrix."""
        return self.gram.determinant()

    def content(self):
        """Return the greatest common divisor of all items of the Gram matrix."""
        return content([item for row in self.gram.rows for item in row])

    def is_even(self):
        """Return True if all norms are even."""
        return all([row[k] % 2 == 0 for k, row in enumerate(self.gram.rows)])

    def product(self, v, w):
        """Return the product of two vectors."""
        check_vector(self, v)
        check_vector(self, w)
        return dot(self.gram.times(v), w)

    def norm(self, v):
        """Return the product of a vector with itself."""
        return self.product(v, v)

    def changed(self, u):
        """Return the same lattice with the rows of the Grid u as its basis."""
        if not isinstance(u, Grid) or len(u.rows) != self.rank() or not u.is_unimodular():
            raise Malformed("no unimodular matrix of the size of the rank")
        return Lattice(gram_of(self, u))

    def spanned(self, u):
        """Return the sublattice that the rows of the Grid u span."""
        if not isinstance(u, Grid) or u.width != self.rank():
            raise Malformed("no matrix with the rank as its width")
        if len(u.rows) == 0 or u.rank() != len(u.rows):
            raise Malformed("no rows, or rows that are not independent")
        return Lattice(gram_of(self, u))

    def scaled(self, k):
        """Return the lattice with all products multiplied by k."""
        if not is_integer(k) or k < 1:
            raise Malformed("no whole number from 1 on")
        return Lattice(self.gram.scaled(k))

    def box_vectors(self, size):
        """Yield all vectors with coordinates from -size to size, ascending."""
        sides = [size] * self.rank()
        yield from box_tuples(sides)


def checked_gram(gram):
    """Return the Gram matrix of a lattice as a Grid."""
    rows = gram.rows if isinstance(gram, Grid) else gram
    if isinstance(rows, (list, tuple)) and len(rows) > MOST_ROWS:
        raise Refused("rank")
    grid = gram if isinstance(gram, Grid) else Grid(gram)
    if len(grid.rows) == 0 or grid != grid.transposed():
        raise Malformed("the matrix has no rows, or is not symmetric")
    if max([abs(item) for row in grid.rows for item in row]) > MOST:
        raise Refused("large")
    if not is_positive(grid.rows):
        raise Malformed("the matrix is not positive definite")
    return grid


def is_positive(rows):
    """Return True if the determinants of all upper left square parts are above 0."""
    sizes = range(1, len(rows) + 1)
    return all([determinant_of([row[:k] for row in rows[:k]]) > 0 for k in sizes])


def check_vector(lattice, v):
    """Raise Malformed if the value is no vector of the lattice."""
    if v not in lattice:
        raise Malformed("no vector of the lattice")


def gram_of(lattice, u):
    """Return the products of the rows of u."""
    return u * lattice.gram * u.transposed()


def read_lattice(text):
    """Return the lattice with this text."""
    if not isinstance(text, str):
        raise NoText(0)
    rows = [row.split(" ") for row in text.split("; ")]
    if not all([is_number(word, MOST_DIGITS) for row in rows for word in row]):
        raise NoText(0)
    numbers = [[int(word) for word in row] for row in rows]
    try:
        return Lattice(numbers)
    except (Malformed, Refused):
        raise NoText(0) from None
