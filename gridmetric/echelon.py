"""Rows of integers brought into Hermite form (point 1.3).

Here the pivot rows found so far are a dict from the column of the pivot to the row.
"""

from gridmetric.whole import cofactors


def hermite_rows(rows):
    """Return the rows of the Hermite form that are not zero."""
    tops = {}
    for row in rows:
        tops = tidied(with_row(tops, row))
    return tuple([tops[column] for column in sorted(tops)])


def with_row(tops, row):
    """Return pivot rows that span the same lattice as the given ones and the row."""
    found = dict(tops)
    for column in range(len(row)):
        if row[column] == 0:
            continue
        if column not in found:
            found[column] = row if row[column] > 0 else tuple([-item for item in row])
            return found
        top, row = merged(found[column], row, column)
        found[column] = top
        # Only to keep the numbers small.
        row = reduced(row, found)
    return found


def merged(top, row, column):
    """Return two rows for these two: their common divisor at the column, and 0 there."""
    g, u, v = cofactors(top[column], row[column])
    return mixed(u, top, v, row), mixed(top[column] // g, row, -(row[column] // g), top)


def mixed(a, first, b, second):
    """Return a times the first row and b times the second row, added."""
    return tuple([a * x + b * y for x, y in zip(first, second)])


def tidied(tops):
    """Return the pivot rows with each item above a pivot from 0 to the pivot less 1."""
    done = {}
    for column in sorted(tops, reverse=True):
        done[column] = reduced(tops[column], done)
    return done


def reduced(row, tops):
    """Return the row less multiples of the pivot rows: from 0 to less than each pivot."""
    # From the left to the right: a pivot row has zeros before its pivot.
    for column in sorted(tops):
        top = tops[column]
        times = row[column] // top[column]
        if times != 0:
            row = mixed(1, row, -times, top)
    return row


def shares(row, form):
    """Return the multiples of the rows of a Hermite form that add up to the row, or None."""
    found = []
    for top in form:
        column = pivot_column(top)
        times = 0 if column is None else row[column] // top[column]
        found.append(times)
        row = mixed(1, row, -times, top)
    return found if pivot_column(row) is None else None


def pivot_column(row):
    """Return the index of the first item that is not 0, or None."""
    for k, item in enumerate(row):
        if item != 0:
            return k
    return None
