"""Determinants and minors of square matrices, given by their rows."""


def determinant_of(rows):
    """Return the determinant, by elimination without fractions."""
    sign = 1
    last = 1
    while len(rows) > 0:
        at = first_with_head(rows)
        if at is None:
            return 0
        # Moving the row up past the `at` rows above it changes the sign so often.
        if at & 1:
            sign = -sign
        top = rows[at]
        rows = [cleared(top, row, last) for k, row in enumerate(rows) if k != at]
        last = top[0]
    return sign * last


def first_with_head(rows):
    """Return the index of the first row that does not begin with 0, or None."""
    for k, row in enumerate(rows):
        if row[0] != 0:
            return k
    return None


def cleared(top, row, last):
    """Return the row without its first item, once that is made 0 by the top row."""
    # The items are minors of the matrix times the pivot of the step before,
    # so the division leaves no remainder.
    return [(top[0] * row[k] - row[0] * top[k]) // last for k in range(1, len(top))]


def minor(rows, i, j):
    """Return the determinant without the row i and the column j."""
    kept = [row[:j] + row[j + 1:] for k, row in enumerate(rows) if k != i]
    return determinant_of(kept)


def adjugate_of(rows):
    """Return the rows of the adjugate."""
    places = range(len(rows))
    return [[signed_minor(rows, j, i) for j in places] for i in places]


def signed_minor(rows, i, j):
    """Return the minor without the row i and the column j, with its sign."""
    return -minor(rows, i, j) if (i + j) & 1 else minor(rows, i, j)
