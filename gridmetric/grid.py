"""Matrices of integers, and their Hermite and Smith forms (points 1.2 to 1.5)."""

from gridmetric.echelon import hermite_rows, shares
from gridmetric.errors import Malformed, Refused
from gridmetric.minors import adjugate_of, determinant_of
from gridmetric.whole import dot, is_integer


class Grid:
    """A matrix of integers: a tuple of rows, which are tuples of one length, the width."""

    def __init__(self, rows, width=None):
        self.rows = checked_rows(rows)
        self.width = checked_width(self.rows, width)

    def __eq__(self, other):
        return isinstance(other, Grid) and self.rows == other.rows and self.width == other.width

    def __len__(self):
        return len(self.rows)

    def __iter__(self):
        return iter(self.rows)

    def __add__(self, other):
        if not isinstance(other, Grid):
            return NotImplemented
        check_same_size(self, other)
        pairs = list(zip(self.rows, other.rows))
        return Grid([[x + y for x, y in zip(one, two)] for one, two in pairs], self.width)

    def __sub__(self, other):
        if not isinstance(other, Grid):
            return NotImplemented
        check_same_size(self, other)
        pairs = list(zip(self.rows, other.rows))
        return Grid([[x - y for x, y in zip(one, two)] for one, two in pairs], self.width)

    def __mul__(self, other):
        if not isinstance(other, Grid):
            return NotImplemented
        if self.width != len(other.rows):
            raise Malformed("the width is not the number of rows of the other matrix")
        columns = other.transposed().rows
        return Grid([[dot(row, column) for column in columns] for row in self.rows], other.width)

    def __neg__(self):
        return self.scaled(-1)

    def scaled(self, k):
        """Return the matrix with all items multiplied by k."""
        return Grid([[k * item for item in row] for row in self.rows], self.width)

    def transposed(self):
        """Return the matrix whose rows are the columns of this one."""
        places = range(self.width)
        return Grid([[row[k] for row in self.rows] for k in places], len(self.rows))

    def times(self, row):
        """Return the row of the products of the rows with the row."""
        if len(row) != self.width:
            raise Malformed("the row has another length")
        return tuple([dot(own, row) for own in self.rows])

    def before(self, row):
        """Return the combination of the rows by the row."""
        return self.transposed().times(row)

    def stacked(self, b):
        """Return the matrix with the rows of this one, followed by those of b."""
        if self.width != b.width:
            raise Malformed("the matrices have unlike widths")
        return Grid(self.rows + b.rows, self.width)

    def is_square(self):
        """Return True if there are as many rows as columns."""
        return len(self.rows) == self.width

    def determinant(self):
        """Return the determinant of a square matrix."""
        check_square(self)
        return determinant_of(self.rows)

    def adjugate(self):
        """Return the adjugate of a square matrix."""
        check_square(self)
        return Grid(adjugate_of(self.rows), self.width)

    def is_unimodular(self):
        """Return True if the matrix is square and its determinant is 1 or -1."""
        return self.is_square() and abs(self.determinant()) == 1

    def inverse(self):
        """Return the inverse of a unimodular matrix."""
        if not self.is_unimodular():
            raise Refused("unimodular")
        return self.adjugate().scaled(self.determinant())

    def hermite(self):
        """Return (h, u): the Hermite form, and a unimodular matrix with h = u * a."""
        # The unit matrix behind the rows notes what is done to them. With it the rows
        # are independent, so none is lost, and those that end as zeros come last.
        units = unit(len(self.rows)).rows
        noted = hermite_rows([row + one for row, one in zip(self.rows, units)])
        h = [row[:self.width] for row in noted]
        u = [row[self.width:] for row in noted]
        return Grid(h, self.width), Grid(u, len(self.rows))

    def rank(self):
        """Return the number of the rows of the Hermite form that are not zero."""
        return len(hermite_rows(self.rows))

    def smith(self):
        """Return (d, u, v): the Smith form, and unimodular matrices with d = u * a * v."""
        d, u, v = diagonal_form(self, unit(len(self.rows)), unit(self.width))
        gap = divisor_gap(d)
        while gap is not None:
            # One column added to the one before brings both numbers into one column,
            # where the Hermite form finds their common divisor.
            step = column_step(self.width, gap)
            d, u, v = diagonal_form(d * step, u, v * step)
            gap = divisor_gap(d)
        return d, u, v

    def factors(self):
        """Return the tuple of the numbers at equal indexes of the Smith form."""
        return diagonal_items(self.smith()[0])

    def is_primitive(self):
        """Return True if further rows can complete the matrix to a unimodular one."""
        # All numbers of the Smith form are 1, one for each row, exactly if the columns
        # span all integer columns: if the unit matrix is their Hermite form.
        return hermite_rows(self.transposed().rows) == unit(len(self.rows)).rows

    def coefficients(self, row):
        """Return integers by which the rows combine to the row, or None."""
        if len(row) != self.width:
            return None
        h, u = self.hermite()
        found = shares(row, h.rows)
        return None if found is None else u.before(found)


def checked_rows(rows):
    """Return the rows as a tuple of tuples."""
    if not isinstance(rows, (list, tuple)):
        raise Malformed("the rows are no list or tuple")
    for row in rows:
        if not isinstance(row, (list, tuple)):
            raise Malformed("a row is no list or tuple")
        if not all([is_integer(item) for item in row]):
            raise Malformed("an item is no integer")
    return tuple([tuple(row) for row in rows])


def checked_width(rows, width):
    """Return the width of a matrix with these rows."""
    if width is None:
        width = len(rows[0]) if len(rows) > 0 else 0
    if not is_integer(width) or width < 0:
        raise Malformed("the width is no integer from 0 on")
    if not all([len(row) == width for row in rows]):
        raise Malformed("a row has another length than the width")
    return width


def check_same_size(a, b):
    """Raise Malformed if the matrices have unlike sizes."""
    if len(a.rows) != len(b.rows) or a.width != b.width:
        raise Malformed("the matrices have unlike sizes")


def check_square(a):
    """Raise Malformed if the matrix is not square."""
    if not a.is_square():
        raise Malformed("the matrix is not square")


def unit(n):
    """Return the unit matrix of size n."""
    return diagonal([1] * n)


def diagonal(numbers):
    """Return the square matrix with these numbers at equal indexes."""
    places = range(len(numbers))
    return Grid([[numbers[i] if i == j else 0 for j in places] for i in places], len(numbers))


def blocks(a, b):
    """Return the matrix with a in the upper left, and b in the lower right."""
    high = [row + (0,) * b.width for row in a.rows]
    low = [(0,) * a.width + row for row in b.rows]
    return Grid(high + low, a.width + b.width)


def diagonal_form(a, u, v):
    """Return (d, x * u, v * y) with unimodular x and y, and d = x * a * y.

    The items of d at equal indexes are not negative, those that are 0 come last, and all
    others are 0.
    """
    # Hermite forms of the rows and of the columns in turn: the first item is the common
    # divisor of the first column, then of the first row, and so on. Once it divides
    # both, the other items there are 0 and stay so, and the same begins for the second.
    while True:
        h, x = a.hermite()
        g, y = h.transposed().hermite()
        a, u, v = g.transposed(), x * u, v * y.transposed()
        if is_diagonal(a):
            return a, u, v


def is_diagonal(a):
    """Return True if all items are 0 except those at equal indexes."""
    return all([row[k] == 0 for i, row in enumerate(a.rows) for k in range(a.width) if k != i])


def diagonal_items(a):
    """Return the tuple of the items at equal indexes."""
    return tuple([a.rows[k][k] for k in range(min(len(a.rows), a.width))])


def divisor_gap(d):
    """Return the index of the first item of the diagonal that does not divide the next one.

    None if there is none. The items that are 0 come last.
    """
    items = diagonal_items(d)
    for k in range(1, len(items)):
        if items[k] != 0 and items[k] % items[k - 1] != 0:
            return k - 1
    return None


def column_step(width, k):
    """Return the matrix that adds the column k + 1 to the column k, from the right."""
    places = range(width)
    added = (k + 1, k)
    return Grid([[1 if i == j or (i, j) == added else 0 for j in places] for i in places], width)
