"""Norms, marks and primitive tuples (points 4.1 and 4.2), by a Gram matrix."""

from gridmetric.grid import Grid
from gridmetric.whole import dot


def norm_of(gram, v):
    """Return the norm of a vector."""
    return dot(gram.times(v), v)


def marked(gram, start, vectors):
    """Return the pairs (mark behind the tuple start, vector) for all the vectors."""
    heads = [gram.times(b) for b in start]
    return [((norm_of(gram, v),) + tuple([dot(head, v) for head in heads]), v) for v in vectors]


def is_primitive(vectors):
    """Return True if the tuple, which is not empty, can be continued to a basis."""
    return Grid(vectors).is_primitive()


def inner_rank(tuples):
    """Return the greatest j for which the first j vectors of each tuple end with zeros.

    They have nothing but zeros behind the j-th item. If the tuples are primitive, the first
    j vectors of each one span all vectors that end so: none of these continues a tuple to
    a primitive one.
    """
    for j in range(len(tuples[0]), 0, -1):
        if not any([any(v[j:]) for vectors in tuples for v in vectors[:j]]):
            return j
    return 0


def moved(vectors, grid):
    """Return the list of the combinations of the rows of a matrix by each of the vectors."""
    columns = grid.transposed()
    return [columns.times(v) for v in vectors]


def marks_of(levels):
    """Return the marks of all levels."""
    return [mark for mark, _ in levels]
