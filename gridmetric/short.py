"""Short vectors, and all vectors near a point (points 3.1 to 3.4)."""

from gridmetric.errors import Malformed
from gridmetric.grid import Grid
from gridmetric.marks import moved
from gridmetric.reduction import short_basis
from gridmetric.whole import dot, lower, root_floor, upper


def tail_matrix(gram, k):
    """Return the matrix T_k of point 3.2 for a Gram matrix, with k from 1 to its size."""
    size = k - 1
    high, low = gram.rows[:size], gram.rows[size:]
    a = Grid([row[:size] for row in high], size)
    b = Grid([row[size:] for row in high], gram.width - size)
    c = Grid([row[size:] for row in low], gram.width - size)
    return c.scaled(a.determinant()) - b.transposed() * a.adjugate() * b


def near_vectors(lattice, a, d, most):
    """Return all vectors v with a norm of d v - a of at most `most`, by that norm."""
    return tuple([v for _, v in near_pairs(lattice, a, d, most)])


def near_pairs(lattice, a, d, most):
    """Return the pairs (norm of d v - a, v) for all near vectors, in ascending order."""
    check_point(lattice, a, d)
    basis = short_basis(lattice)
    point = basis.inverse().before(a)
    pairs = searched(lattice.changed(basis).gram, point, d, most, lattice.rank())
    vectors = moved([v for _, v in pairs], basis)
    return sorted([(pair[0], v) for pair, v in zip(pairs, vectors)])


def check_point(lattice, a, d):
    """Raise Malformed if the pair (a, d) is no rational point of the lattice."""
    if len(a) != lattice.rank():
        raise Malformed("the point has another number of items than the rank")
    if d < 1:
        raise Malformed("the denominator is less than 1")


def searched(gram, a, d, most, inner):
    """Return the pairs (norm of d v - a, v) for all v with a norm of at most `most`.

    It leaves out those v that have nothing but zeros behind the first `inner` items;
    with the rank as `inner` it leaves out none.
    """
    if most < 0:
        return []
    heads = [tail_matrix(gram, k).rows[0] for k in range(1, gram.width + 1)]
    ends = [(0, ())]
    for k in range(gram.width - 1, -1, -1):
        before = heads[k - 1][0] if k > 0 else 1
        ends = lengthened(ends, heads[k], before, a[k:], d, most)
        if k == inner:
            ends = [pair for pair in ends if any(pair[1])]
    return ends


def lengthened(ends, head, before, a, d, most):
    """Return the ends with each next item in front that the condition of point 3.2 allows.

    An end is a pair: the value y T y for the tail matrix T of its length, and its items.
    `head` is the first row of the next tail matrix, `before` the determinant that its
    values are compared by.
    """
    lead = head[0]
    found = []
    for value, end in ends:
        # The next matrix without its first row and column, times `lead`, is `before` times
        # the last one and the square of the rest of `head`. So the values need no more
        # than `head`, and the division below leaves no remainder.
        root = root_floor(before * (lead * most - value))
        rest = dot(head[1:], [d * item - x for item, x in zip(end, a[1:])])
        middle = lead * a[0] - rest
        for item in range(upper(middle - root, lead * d), lower(middle + root, lead * d) + 1):
            part = lead * d * item - middle
            found.append(((part * part + before * value) // lead, (item, *end)))
    return found


def short_vectors(lattice, most):
    """Return the vectors with a norm from 1 to `most`, by their norms."""
    zero = (0,) * lattice.rank()
    return tuple([v for v in near_vectors(lattice, zero, 1, most) if any(v)])


def least_norm(lattice):
    """Return the least norm of a vector other than zero."""
    return lattice.norm(least_vectors(lattice)[0])


def least_vectors(lattice):
    """Return the vectors of the least norm, ascending."""
    basis = short_basis(lattice)
    most = lattice.norm(basis.rows[0])
    zero = (0,) * lattice.rank()
    pairs = [pair for pair in near_pairs(lattice, zero, 1, most) if any(pair[1])]
    return tuple([v for norm, v in pairs if norm == pairs[0][0]])


def counts(lattice, most):
    """Return the numbers of vectors of the norms 0, 1, .., most."""
    gram = lattice.changed(short_basis(lattice)).gram
    found = [0] * (most + 1)
    for norm, _ in searched(gram, (0,) * lattice.rank(), 1, most, lattice.rank()):
        found[norm] += 1
    return tuple(found)
