"""All maps between two lattices, and the group of a lattice (points 4.6 to 4.8)."""

from gridmetric.grid import Grid, unit
from gridmetric.least import levels
from gridmetric.marks import marks_of


def alike(a, b):
    """Return True if there is a map from one lattice to the other."""
    # The marks are the items of the least Gram matrix, so unlike ranks have unlike ones.
    return marks_of(levels(a)) == marks_of(levels(b))


def find_map(a, b):
    """Return the least map from one lattice to the other, or None."""
    maps = all_maps(a, b)
    return maps[0] if len(maps) > 0 else None


def all_maps(a, b):
    """Return all maps from one lattice to the other, ascending by their rows."""
    return maps_between(levels(a), levels(b))


def self_maps(a):
    """Return all maps from the lattice to itself, ascending by their rows."""
    table = levels(a)
    return maps_between(table, table)


def maps_between(one, two):
    """Return all maps from a lattice with the first levels to one with the second."""
    if marks_of(one) != marks_of(two):
        return ()
    return tuple(sorted(maps_to_bases(one, two), key=lambda m: m.rows))


def maps_to_bases(one, two):
    """Return the maps that take the first least basis of the first levels to each of the second."""
    back = Grid(one[-1][1][0]).inverse()
    return [back * Grid(basis) for basis in two[-1][1]]


def order(a):
    """Return the number of the maps from the lattice to itself."""
    return len(levels(a)[-1][1])


def generators(a):
    """Return the self-maps that are no product of those taken before, in ascending order."""
    taken = []
    words = words_by(a.rank(), taken)
    for m in self_maps(a):
        if m.rows not in words:
            taken.append(m)
            words = words_by(a.rank(), taken)
    return tuple(taken)


def word_of(a, maps, m):
    """Return the least one of the shortest words of a self-map by the maps, or None."""
    return words_by(a.rank(), maps).get(m.rows)


def words_by(n, maps):
    """Return a dict from the rows of each product of the maps to its word.

    The products are met in the order of their words: by the length, then as tuples. A
    shortest word goes on from a shortest word, and the least one from the least one; so
    the first word by which a product is met is the word of point 4.8.
    """
    start = unit(n).rows
    words = {start: ()}
    columns = [m.transposed() for m in maps]
    images = [{} for _ in maps]
    layer = (start,)
    while len(layer) > 0:
        met = longer_words(layer, words, columns, images)
        for rows in met:
            words[rows] = met[rows]
        layer = tuple(met)
    return words


def longer_words(layer, words, columns, images):
    """Return a dict from the products of a layer and one more map to their words.

    It has only those that have no word yet, in the order in which they are met.
    """
    met = {}
    for rows in layer:
        for k in range(len(images)):
            longer = product_rows(rows, columns[k], images[k])
            if longer not in words and longer not in met:
                met[longer] = words[rows] + (k,)
    return met


def product_rows(rows, columns, known):
    """Return the rows times the matrix with these columns; `known` keeps the rows worked out."""
    # The rows of all products are few vectors, so most of them are known.
    for row in rows:
        if row not in known:
            known[row] = columns.times(row)
    return tuple([known[row] for row in rows])
