"""The vectors that are nearest to a rational point (point 3.5)."""

from gridmetric.errors import Malformed
from gridmetric.reduction import short_basis
from gridmetric.short import check_point, near_pairs
from gridmetric.whole import lowest, rounded


def nearest(lattice, a, d):
    """Return (vectors, (p, q)): all nearest vectors, and the squared distance p / q."""
    check_point(lattice, a, d)
    pairs = near_pairs(lattice, a, d, norm_between(lattice, a, d, close_vector(lattice, a, d)))
    least = pairs[0][0]
    return tuple([v for norm, v in pairs if norm == least]), lowest(least, d * d)


def close_vector(lattice, a, d):
    """Return a vector that is not far from the point."""
    # Rounding is the better the shorter the vectors of the basis are.
    basis = short_basis(lattice)
    return basis.before([rounded(x, d) for x in basis.inverse().before(a)])


def distance(lattice, a, d, v):
    """Return the squared distance (p, q) from the point to a vector."""
    check_point(lattice, a, d)
    if len(v) != lattice.rank():
        raise Malformed("the vector has another number of items than the rank")
    return lowest(norm_between(lattice, a, d, v), d * d)


def norm_between(lattice, a, d, v):
    """Return the norm of d v - a."""
    return lattice.norm(tuple([d * y - x for x, y in zip(a, v)]))
