"""A basis of short vectors, in which all searches are short ones.

In a skew basis the vectors up to a norm have large coordinates, and a search meets far more
beginnings than vectors. What is found does not depend on the basis, so every search is done
in such a basis, and its answers are moved back.
"""

from gridmetric.echelon import mixed
from gridmetric.grid import Grid, unit
from gridmetric.marks import norm_of
from gridmetric.whole import dot, rounded


def short_basis(lattice):
    """Return a unimodular Grid whose rows are short vectors, ascending by their norms.

    No row gets shorter if rows before it are added or subtracted, each at most once. Up to
    the rank 4 this makes each row as short as it can be (Minkowski), but nothing relies on
    that except the time that a search takes.
    """
    gram = lattice.gram
    rows = None
    better = list(unit(lattice.rank()).rows)
    # Each turn makes one norm less, so there is a last one.
    while better != rows:
        rows = sorted(better, key=lambda row: norm_of(gram, row))
        better = shortened(gram, rows)
    return Grid(rows)


def shortened(gram, rows):
    """Return the rows with the first one that can be shortened by those before it."""
    for k in range(1, len(rows)):
        row = shortest(gram, rows[:k], rows[k])
        if norm_of(gram, row) < norm_of(gram, rows[k]):
            return rows[:k] + [row] + rows[k + 1:]
    return rows


def shortest(gram, others, row):
    """Return a shortest one of the row and what the other rows make of it."""
    for other in others:
        times = rounded(dot(gram.times(other), row), norm_of(gram, other))
        row = mixed(1, row, -times, other)
    found = [row]
    for other in others:
        found = [mixed(1, one, sign, other) for one in found for sign in (0, 1, -1)]
    return min(found, key=lambda one: norm_of(gram, one))
