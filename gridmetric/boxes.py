"""All tuples of a box: the k-th item lies within the same bound on both sides of 0."""


def box_tuples(sides):
    """Yield all tuples with the k-th item from -sides[k] to sides[k], ascending."""
    if len(sides) == 0:
        yield ()
        return
    rest = sides[1:]
    for first in range(-sides[0], sides[0] + 1):
        for others in box_tuples(rest):
            yield (first,) + others
