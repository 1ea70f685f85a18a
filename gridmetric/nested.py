"""The sublattices of an index, and all whole lattices above a lattice (points 7.3 to 7.5)."""

from gridmetric.dual import common_denominator, quotient_rows
from gridmetric.echelon import hermite_rows
from gridmetric.errors import Refused
from gridmetric.grid import Grid, unit
from gridmetric.lattice import Lattice, gram_of
from gridmetric.whole import divisors, dot, is_integer

MOST_SIZE = 4
MOST_INDEX = 60


def sublattices(n, index):
    """Return all matrices in Hermite form of the size n with the determinant `index`, ascending."""
    check_number(n, MOST_SIZE)
    check_number(index, MOST_INDEX)
    found = [rows for pivots in pivot_tuples(n, index) for rows in forms_with(pivots)]
    return tuple([Grid(rows) for rows in sorted(found)])


def sublattice_count(n, index):
    """Return the number of these matrices, without making them."""
    check_number(n, MOST_SIZE)
    check_number(index, MOST_INDEX)
    total = 0
    for pivots in pivot_tuples(n, index):
        many = 1
        for k in range(n):
            for _ in range(k):
                many = many * pivots[k]
        total = total + many
    return total


def check_number(value, most):
    """Raise Refused if the value is no integer from 1 to `most`."""
    if not is_integer(value) or not 1 <= value <= most:
        raise Refused("large")


def pivot_tuples(n, index):
    """Return all tuples of n integers from 1 on with a product."""
    found = [((), index)]
    for _ in range(n - 1):
        found = [(one + (p,), left // p) for one, left in found for p in divisors(left)]
    return [one + (left,) for one, left in found]


def forms_with(pivots):
    """Return the rows of all matrices in Hermite form with these pivots, one in each row."""
    found = [()]
    for k in range(len(pivots)):
        rows = [(0,) * k + (pivots[k],)]
        for pivot in pivots[k + 1:]:
            rows = [row + (item,) for row in rows for item in range(pivot)]
        found = [one + (row,) for one in found for row in rows]
    return found


def above(lattice):
    """Return the pairs (index, H) of all whole lattices above a lattice, in order."""
    e, rows = quotient_rows(lattice)
    start = unit(lattice.rank()).scaled(e)
    whole = [row for row in rows if is_whole_product(lattice.gram, row, row, e)]
    known = {start.rows: True}
    left = [start.rows]
    while len(left) > 0:
        last = left.pop()
        for made in larger(lattice.gram, last, whole, e):
            if made not in known:
                known[made] = True
                left.append(made)
    volume = start.determinant()
    pairs = sorted([(volume // Grid(made).determinant(), made) for made in known])
    return tuple([(index, Grid(made)) for index, made in pairs])


def larger(gram, rows, vectors, e):
    """Return the Hermite forms of the rows with one of those vectors that fit to all rows."""
    found = []
    for x in vectors:
        if all([is_whole_product(gram, x, row, e) for row in rows]):
            found.append(hermite_rows(rows + (x,)))
    return found


def is_whole_product(gram, x, y, e):
    """Return True if the product of two rows, both divided by e, is an integer."""
    return dot(gram.times(x), y) % (e * e) == 0


def raised(lattice, grid):
    """Return the lattice above another one that a matrix of `above` gives."""
    e = common_denominator(lattice)
    rows = gram_of(lattice, grid).rows
    return Lattice([[item // (e * e) for item in row] for row in rows])
