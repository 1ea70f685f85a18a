"""The checker of papers (chapter 5). It searches for nothing but the vectors of a box."""

from gridmetric.boxes import box_tuples
from gridmetric.grid import Grid
from gridmetric.marks import inner_rank, is_primitive, marked, marks_of, moved, norm_of
from gridmetric.reduction import short_basis
from gridmetric.whole import dot, is_integer, lower, root_floor, upper


def box(lattice, norm):
    """Return the vectors of the box of a norm from 0, ascending."""
    sides = box_sides(lattice, norm)
    return tuple([v for v in box_tuples(sides) if any(v)])


def box_sides(lattice, norm):
    """Return the greatest items of the vectors of a box."""
    d = lattice.determinant()
    rows = lattice.gram.adjugate().rows
    return [root_floor(lower(norm * row[k], d)) for k, row in enumerate(rows)]


def low_vectors(lattice, norm, inner):
    """Return the vectors of the box of a norm whose own norm is at most that.

    It leaves out those that have nothing but zeros behind the first `inner` items.
    """
    found = []
    sides = box_sides(lattice, norm)[1:]
    for end in box_tuples(sides):
        if inner > 0 and not any(end[inner - 1:]):
            continue
        low, high = line_bounds(lattice.gram, end, norm)
        found.extend([(first, *end) for first in range(low, high + 1)])
    return [v for v in found if any(v)]


def line_bounds(gram, end, norm):
    """Return the least and the greatest first item in front of an end for at most this norm.

    If there is none, the greatest is less than the least.
    """
    lead = gram.rows[0][0]
    rest = dot(gram.rows[0][1:], end)
    room = rest * rest - lead * (norm_of(gram, (0, *end)) - norm)
    if room < 0:
        return 0, -1
    root = root_floor(room)
    return upper(-root - rest, lead), lower(root - rest, lead)


def takes_levels(lattice, paper):
    """Return True if the value is a paper of levels that leaves nothing out."""
    if not has_levels_form(paper, lattice.rank()):
        return False
    # The points of 5.3 hold in one basis if they do in another one: a vector of a norm up
    # to that of the box is in the box by every basis, and the others do not matter. By a
    # basis of short vectors the box is small. `changed` makes sure that it is a basis.
    basis = short_basis(lattice)
    near = lattice.changed(basis)
    back = basis.inverse()
    starts = [()]
    for mark, tuples in paper[1]:
        found = [tuple(moved(vectors, back)) for vectors in tuples]
        if not all_belong(near, starts, mark, found):
            return False
        if not none_missing(near, starts, mark, found):
            return False
        starts = found
    return True


def has_levels_form(paper, n):
    """Return True if the value has the form of a paper of levels for a rank."""
    if not is_tuple(paper, 2) or paper[0] != "levels" or not is_tuple(paper[1], n):
        return False
    return all([has_level_form(level, k + 1, n) for k, level in enumerate(paper[1])])


def has_level_form(level, size, n):
    """Return True if the value is a pair of a mark and tuples as point 5.3 says."""
    if not is_tuple(level, 2):
        return False
    mark, tuples = level
    if not is_row(mark, size) or mark[0] < 1:
        return False
    if not isinstance(tuples, tuple) or len(tuples) == 0:
        return False
    if not all([is_tuple(one, size) and all([is_row(v, n) for v in one]) for one in tuples]):
        return False
    return all([one < two for one, two in zip(tuples, tuples[1:])])


def is_tuple(value, size):
    """Return True if the value is a tuple with this many items."""
    return isinstance(value, tuple) and len(value) == size


def is_row(value, size):
    """Return True if the value is a tuple of this many integers."""
    return is_tuple(value, size) and all([is_integer(item) for item in value])


def all_belong(lattice, starts, mark, tuples):
    """Return True if each tuple is one of the starts, continued by a vector with the mark."""
    known = {start: True for start in starts}
    for vectors in tuples:
        start, last = vectors[:-1], vectors[-1]
        if start not in known or marked(lattice.gram, start, [last])[0][0] != mark:
            return False
        if not is_primitive(vectors):
            return False
    return True


def none_missing(lattice, starts, mark, tuples):
    """Return True if no vector continues a start with a lesser mark, or is left out."""
    known = {vectors: True for vectors in tuples}
    inner = inner_rank(starts)
    # A mark that is too great is found out in a smaller box, before the box of its norm
    # is searched, which may be a very large one.
    first = lattice.gram.rows[len(mark) - 1][len(mark) - 1]
    norms = [mark[0]] if mark[0] <= first else [first, mark[0]]
    for norm in norms:
        vectors = low_vectors(lattice, norm, inner)
        for start in starts:
            if leaves_out(lattice, start, vectors, mark, known):
                return False
    return True


def leaves_out(lattice, start, vectors, mark, known):
    """Return True if a vector continues the start with a lesser mark, or to none of the known."""
    for found, v in marked(lattice.gram, start, vectors):
        if found < mark or (found == mark and (*start, v) not in known):
            if is_primitive((*start, v)):
                return True
    return False


def takes_pair(a, b, paper):
    """Return True if the value is a paper for two lattices, and right."""
    if a.rank() != b.rank():
        return paper == ("unlike", (), ())
    if is_tuple(paper, 2) and paper[0] == "alike":
        return is_map(a, b, paper[1])
    if not is_tuple(paper, 3) or paper[0] != "unlike":
        return False
    one, two = paper[1], paper[2]
    if not takes_levels(a, one) or not takes_levels(b, two):
        return False
    return marks_of(one[1]) != marks_of(two[1])


def is_map(a, b, m):
    """Return True if the value is a map from one lattice to another one of the same rank."""
    if not isinstance(m, Grid) or len(m.rows) != a.rank() or not m.is_unimodular():
        return False
    return m * b.gram * m.transposed() == a.gram


def takes_group(a, paper):
    """Return True if the value is a paper for the group of a lattice, and right."""
    if not is_tuple(paper, 5) or paper[0] != "group":
        return False
    order, maps, words, levels = paper[1], paper[2], paper[3], paper[4]
    if not is_integer(order) or not isinstance(maps, tuple) or not is_tuple(words, order):
        return False
    if not all([is_word(word, len(maps)) for word in words]):
        return False
    if not all([is_map(a, a, m) for m in maps]) or not takes_levels(a, levels):
        return False
    bases = levels[1][-1][1]
    return len(bases) == order and words_lead(maps, words, bases)


def is_word(value, many):
    """Return True if the value is a tuple of indexes below a number."""
    if not isinstance(value, tuple):
        return False
    return all([is_integer(k) and 0 <= k < many for k in value])


def words_lead(maps, words, bases):
    """Return True if the products by the words take the first basis to each one, in order."""
    columns = [m.transposed() for m in maps]
    for word, basis in zip(words, bases):
        rows = bases[0]
        for k in word:
            rows = tuple([columns[k].times(row) for row in rows])
        if rows != basis:
            return False
    return True
