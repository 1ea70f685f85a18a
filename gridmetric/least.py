"""The least bases of a lattice, and its least Gram matrix (points 4.3 to 4.5)."""

from gridmetric.grid import Grid
from gridmetric.marks import inner_rank, is_primitive, marked, moved
from gridmetric.reduction import short_basis
from gridmetric.short import searched


def levels(lattice):
    """Return a pair (mark, tuples) for each level from 1 to the rank."""
    basis = short_basis(lattice)
    gram = lattice.changed(basis).gram
    found = []
    tuples = [()]
    for k in range(lattice.rank()):
        mark, tuples = next_level(gram, tuples, gram.rows[k][k])
        found.append((mark, tuple(sorted([tuple(moved(one, basis)) for one in tuples]))))
    return tuple(found)


def next_level(gram, tuples, most):
    """Return (mark, tuples) for the level behind these tuples; `most` is the first bound."""
    zero = (0,) * gram.width
    inner = inner_rank(tuples)
    mark, found = None, []
    while mark is None:
        vectors = [v for _, v in searched(gram, zero, 1, most, inner)]
        mark, found = continued(gram, tuples, vectors)
        most = 2 * most
    return mark, found


def continued(gram, tuples, vectors):
    """Return the least mark of a vector that continues a tuple, and all tuples with it.

    Only primitive tuples count. The mark is None if there are none.
    """
    least, found = None, []
    for start in tuples:
        for mark, v in sorted(marked(gram, start, vectors)):
            if least is not None and mark > least:
                break
            if is_primitive((*start, v)):
                if mark != least:
                    least, found = mark, []
                found.append((*start, v))
    return least, found


def least_bases(lattice):
    """Return the tuples of the last level, as Grids."""
    return tuple([Grid(basis) for basis in levels(lattice)[-1][1]])


def form(lattice):
    """Return the lattice with the least Gram matrix."""
    return lattice.changed(least_bases(lattice)[0])
