"""Papers, which the checker accepts (chapter 5)."""

from gridmetric.least import levels
from gridmetric.maps import find_map, generators, maps_to_bases, words_by


def levels_paper(lattice):
    """Return the paper of the levels of a lattice."""
    return ("levels", levels(lattice))


def pair_paper(a, b):
    """Return a paper that two lattices are alike, or that they are not."""
    if a.rank() != b.rank():
        return ("unlike", (), ())
    m = find_map(a, b)
    if m is None:
        return ("unlike", levels_paper(a), levels_paper(b))
    return ("alike", m)


def group_paper(a):
    """Return the paper for the group of a lattice."""
    table = levels(a)
    maps = generators(a)
    # One table of all words, in place of one for each call of word_of.
    words = words_by(a.rank(), maps)
    found = tuple([words[m.rows] for m in maps_to_bases(table, table)])
    return ("group", len(found), maps, found, ("levels", table))
