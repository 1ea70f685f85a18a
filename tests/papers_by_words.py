"""The checker by the words of the document, and values that are no papers."""

from itertools import product

from lattices import plain_norm, plain_product
from samples import minors_content

from gridmetric.checker import box
from gridmetric.grid import Grid, unit
from gridmetric.lattice import Lattice

OTHER_VALUES = (
    None, True, False, 0, 1, -1, 2, 10 ** 40, "", "levels", "alike", "unlike", "group", (), [],
    ((),), [()], (None,), ("levels",), ("levels", ()), ("levels", ((), ())), ("levels", []),
    ("alike",), ("alike", None), ("alike", ()), ("unlike",), ("unlike", (), ()),
    ("unlike", None, None), ("group", 1, (), (), ()), ("group", 0, (), (), ("levels", ())),
    ("group",) + (None,) * 4, Grid(()), unit(2), unit(4), Lattice(((1,),)), (Grid(()),) * 2,
    ("levels", unit(1)), ("levels", unit(2)), (unit(2), ()), "le", ("l", "e"), [["levels"], []],
)


def takes_by_words(lattice, paper):
    """Point 5.3, word by word, for a paper that has the form of point 5.1."""
    before = [()]
    for k, (mark, tuples) in enumerate(paper[1]):
        if mark[0] < 1 or list(tuples) != sorted(set(tuples)) or not tuples:
            return False
        for vectors in tuples:
            if not primitive(vectors) or vectors[:-1] not in before:
                return False
            if mark_behind(lattice, vectors[:-1], vectors[-1]) != mark:
                return False
        for start, v in product(before, box(lattice, mark[0])):
            if primitive(start + (v,)):
                found = mark_behind(lattice, start, v)
                if found < mark or (found == mark and start + (v,) not in tuples):
                    return False
        before = tuples
    return True


def primitive(vectors):
    return minors_content(Grid(vectors), len(vectors)) == 1


def mark_behind(lattice, start, v):
    return (plain_norm(lattice, v),) + tuple(plain_product(lattice, b, v) for b in start)


def changes(value):
    """All values with one change in value, at any depth, none of which is the same value."""
    for other in (None, True, False, "x", (), [], unit(1), Grid(()), (value,), [value], 7, -7):
        if not same(other, value):
            yield other
    if isinstance(value, int):
        yield from (value + 1, value - 1, str(value), 10 ** 30 + value)
        if value:
            yield -value
    if isinstance(value, tuple):
        yield list(value)
        yield value + (0,)
        yield value + (value,)
        if value:
            yield value + value[-1:]
        for k, item in enumerate(value):
            yield value[:k] + value[k + 1:]
            if k and not same(item, value[k - 1]):
                yield value[:k - 1] + (item, value[k - 1]) + value[k + 1:]
            for changed in changes(item):
                yield value[:k] + (changed,) + value[k + 1:]


def same(one, two):
    """Equal also in the kinds of all items."""
    if type(one) is not type(two):
        return False
    if isinstance(one, (list, tuple)):
        return len(one) == len(two) and all(same(x, y) for x, y in zip(one, two))
    return one == two
