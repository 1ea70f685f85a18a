"""Indecomposable vectors, and the orthogonal parts of a lattice (chapter 6)."""

from gridmetric.echelon import hermite_rows
from gridmetric.errors import Malformed
from gridmetric.grid import Grid
from gridmetric.halves import ends_up_to, has_halves, least_halves
from gridmetric.lattice import check_vector
from gridmetric.marks import moved
from gridmetric.reduction import short_basis
from gridmetric.short import searched
from gridmetric.whole import dot


def decomposition(lattice, v):
    """Return the first pair of orthogonal vectors, none of them zero, whose sum is v, or None."""
    check_vector(lattice, v)
    if not any(v):
        raise Malformed("the zero vector")
    return divided(short_frame(lattice), v, {})


def short_frame(lattice):
    """Return a basis of short vectors, its inverse, and its Gram matrix."""
    basis = short_basis(lattice)
    return basis, basis.inverse(), lattice.changed(basis).gram


def divided(frame, v, known):
    """Return the decomposition of a vector; `known` as in `least_halves`."""
    basis, back, gram = frame
    found = least_halves(gram, back.before(v), known)
    if len(found) == 0:
        return None
    x = min(moved(found, basis))
    return x, tuple([whole - part for whole, part in zip(v, x)])


def is_indecomposable(lattice, v):
    """Return True if a vector other than zero is no sum of two orthogonal ones."""
    return decomposition(lattice, v) is None


def indecomposables(lattice, most):
    """Return the indecomposable vectors with a norm of at most `most`, by their norms."""
    basis, _, gram = short_frame(lattice)
    pairs = searched(gram, (0,) * lattice.rank(), 1, most, lattice.rank())
    # Of two halves one has at most half the norm.
    lines = ends_up_to(gram, most // 2)
    kept = [(norm, v) for norm, v in pairs if any(v) and not has_halves(gram, v, lines)]
    vectors = moved([v for _, v in kept], basis)
    return tuple([v for _, v in sorted([(pair[0], v) for pair, v in zip(kept, vectors)])])


def summands(lattice, v):
    """Return indecomposable vectors whose sum is v, by dividing with `decomposition`."""
    check_vector(lattice, v)
    frame = short_frame(lattice)
    known = {}
    found = []
    # The last one is divided next, so all of x comes before y.
    left = [v] if any(v) else []
    while len(left) > 0:
        one = left.pop()
        pair = divided(frame, one, known)
        if pair is None:
            found.append(one)
        else:
            x, y = pair
            left.extend([y, x])
    return tuple(found)


def finest_parts(lattice):
    """Return the Grids of the one parting into parts that have no parting themselves."""
    # The summands of any basis are enough, and those of a basis of short vectors are found
    # soon: a class of them spans a part of some parting, and lies in one part of each.
    vectors = [x for row in short_basis(lattice).rows for x in summands(lattice, row)]
    grids = [Grid(hermite_rows(one)) for one in connected(lattice.gram, vectors)]
    return tuple(sorted(grids, key=lambda grid: (len(grid.rows), grid.rows)))


def connected(gram, vectors):
    """Return the classes of vectors that rows of joined ones connect, as lists."""
    classes = []
    for v in vectors:
        head = gram.times(v)
        met = [one for one in classes if any([dot(head, w) for w in one])]
        apart = [one for one in classes if not any([dot(head, w) for w in one])]
        classes = apart + [[v] + [w for one in met for w in one]]
    return classes


def is_whole(lattice):
    """Return True if the lattice has no parting but into itself."""
    return len(finest_parts(lattice)) == 1


def part_lattices(lattice):
    """Return the lattices that the Grids of the finest parts span."""
    return tuple([lattice.spanned(grid) for grid in finest_parts(lattice)])


def is_parting(lattice, grids):
    """Return True if the value is a tuple of Grids that are a parting of the lattice."""
    n = lattice.rank()
    if not isinstance(grids, tuple):
        return False
    if not all([isinstance(one, Grid) and len(one.rows) > 0 and one.width == n for one in grids]):
        return False
    if not Grid([row for one in grids for row in one.rows], n).is_unimodular():
        return False
    pairs = [(one, two) for k, one in enumerate(grids) for two in grids[:k]]
    return all([is_orthogonal(lattice.gram, one, two) for one, two in pairs])


def is_orthogonal(gram, one, two):
    """Return True if all products of rows of one Grid and rows of the other one are 0."""
    products = one * gram * two.transposed()
    return not any([item for row in products.rows for item in row])
