"""The vectors x of a lattice with the product of x and v - x equal to 0 (point 6.1).

This is so exactly if the norm of x is the product of x and v. If the items of x behind the
first one are chosen, it is a quadratic equation for the first one.
"""

from gridmetric.marks import norm_of
from gridmetric.short import searched, tail_matrix
from gridmetric.whole import dot, root_floor


def ends_up_to(gram, most):
    """Return a triple (end, rest, own) for each end of a vector with a norm up to `most`.

    An end has all items but the first one. With a first item t the norm is
    lead t t + 2 rest t + own, where lead is the first item of the matrix. The ends of
    shorter vectors come first.
    """
    lead, *others = gram.rows[0]
    zero = (0,) * len(others)
    pairs = sorted(searched(tail_matrix(gram, 2), zero, 1, lead * most, len(others)))
    return [(end, dot(others, end), norm_of(gram, (0, *end))) for _, end in pairs]


def halves_at(lead, heads, v, line):
    """Return the pairs (norm of x, x) for all x with one end, but for zero and v.

    `heads` has the products of v with the basis vectors.
    """
    end, rest, own = line
    fixed = dot(heads[1:], end)
    roots = whole_roots(lead, 2 * rest - heads[0], own - fixed)
    pairs = [(t * heads[0] + fixed, (t, *end)) for t in roots]
    return [pair for pair in pairs if any(pair[1]) and pair[1] != v]


def whole_roots(a, b, c):
    """Return the integers t with a t t + b t + c = 0, for a above 0."""
    room = b * b - 4 * a * c
    if room < 0:
        return []
    root = root_floor(room)
    if root * root != room:
        return []
    tops = (-b - root, -b + root) if root > 0 else (-b,)
    return [top // (2 * a) for top in tops if top % (2 * a) == 0]


def least_halves(gram, v, known):
    """Return all x of the least norm, an empty list if there are none.

    `known` keeps the ends for each norm that was asked for.
    """
    heads = gram.times(v)
    # One of x and v - x has at most half the norm of v.
    half = dot(heads, v) // 2
    most = 0
    while most < half:
        most = 2 * most + 1
        if most not in known:
            known[most] = ends_up_to(gram, most)
        lines = known[most]
        pairs = [pair for line in lines for pair in halves_at(gram.rows[0][0], heads, v, line)]
        least = min([norm for norm, _ in pairs], default=most + 1)
        # Of those above `most` some may be missing.
        if least <= most:
            return [x for norm, x in pairs if norm == least]
    return []


def has_halves(gram, v, lines):
    """Return True if there is an x with the end of one of the lines."""
    heads = gram.times(v)
    for line in lines:
        if len(halves_at(gram.rows[0][0], heads, v, line)) > 0:
            return True
    return False
