"""The dual of a lattice, and its quotient group by the lattice (points 7.1 and 7.2)."""

from gridmetric.errors import Refused
from gridmetric.lattice import Lattice
from gridmetric.whole import content, dot, lowest

MOST_ELEMENTS = 400


def dual_basis(lattice):
    """Return (adj, d): the rows of adj divided by d are a basis of the dual."""
    return lattice.gram.adjugate(), lattice.determinant()


def scaled_dual(lattice):
    """Return the lattice with the adjugate, divided by its content, as its Gram matrix."""
    rows = lattice.gram.adjugate().rows
    common = content([item for row in rows for item in row])
    return Lattice([[item // common for item in row] for row in rows])


def rational(row, e):
    """Return the rational vector of a row and an integer from 1 on, in lowest terms."""
    common = content([e, *row])
    return tuple([item // common for item in row]), e // common


def is_in_dual(lattice, vector):
    """Return True if a rational vector is in the dual."""
    row, e = vector
    return all([item % e == 0 for item in lattice.gram.times(row)])


def rational_product(lattice, x, y):
    """Return the product of two rational vectors, (p, q) in lowest terms."""
    return lowest(dot(lattice.gram.times(x[0]), y[0]), x[1] * y[1])


def quotient_group(lattice):
    """Return (orders, generators) of the quotient group of the dual by the lattice."""
    d, u, _ = lattice.gram.smith()
    pairs = [(d.rows[k][k], row) for k, row in enumerate(u.rows) if d.rows[k][k] > 1]
    orders = tuple([order for order, _ in pairs])
    return orders, tuple([rational(row, order) for order, row in pairs])


def quotient_vectors(lattice):
    """Return one rational vector for each element of the quotient group, in order."""
    e, rows = quotient_rows(lattice)
    return tuple(sorted([rational(row, e) for row in rows], key=lambda x: (x[1], x[0])))


def quotient_rows(lattice):
    """Return (e, rows): each row divided by e is one element, with items from 0 to e - 1."""
    if lattice.determinant() > MOST_ELEMENTS:
        raise Refused("large")
    orders, generators = quotient_group(lattice)
    e = common_denominator(lattice)
    rows = [(0,) * lattice.rank()]
    for order, (row, part) in zip(orders, generators):
        step = [item * (e // part) for item in row]
        rows = [shifted(one, k, step, e) for one in rows for k in range(order)]
    return e, rows


def common_denominator(lattice):
    """Return the greatest number of the Smith form, a denominator for the whole dual."""
    return lattice.gram.factors()[-1]


def shifted(row, k, step, e):
    """Return the row and k times the step, with items from 0 to e - 1."""
    return tuple([(item + k * more) % e for item, more in zip(row, step)])
