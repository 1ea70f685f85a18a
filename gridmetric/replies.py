"""The replies to lines, and whether an entry is right (points 8.2, 8.3 and 8.6)."""

from gridmetric.checker import is_tuple, takes_group, takes_pair
from gridmetric.dual import quotient_group
from gridmetric.errors import Malformed, NoText, Refused
from gridmetric.least import form
from gridmetric.nearest import nearest
from gridmetric.nested import above, sublattice_count
from gridmetric.packing import is_data, plain, restored
from gridmetric.papers import group_paper, pair_paper
from gridmetric.parts import part_lattices
from gridmetric.sheet import read_line
from gridmetric.short import short_vectors

MOST_NORM = 200


def tell_form(a):
    """Return the reply with the least form of a lattice."""
    return ("lattice", str(form(a)), ())


def tell_alike(a, b):
    """Return the reply with a paper for two lattices."""
    paper = pair_paper(a, b)
    return ("alike", pair_text(paper), plain(paper))


def pair_text(paper):
    """Return the text that belongs to a paper for two lattices."""
    return "yes" if paper[0] == "alike" else "no"


def tell_group(a):
    """Return the reply with a paper for the group of a lattice."""
    paper = group_paper(a)
    return ("group", group_text(paper), plain(paper))


def group_text(paper):
    """Return the text that belongs to a paper for a group."""
    return str(paper[1])


def tell_short(a, most):
    """Return the reply with the short vectors."""
    if most > MOST_NORM:
        raise Refused("large")
    return ("vectors", vectors_text(short_vectors(a, most)), ())


def tell_nearest(a, point, d):
    """Return the reply with the nearest vectors and the squared distance."""
    vectors, (p, q) = nearest(a, point, d)
    return ("nearest", f"{vectors_text(vectors)} at {p}/{q}", ())


def vectors_text(vectors):
    """Return the vectors as they are written."""
    return " ".join(["(" + ",".join([str(item) for item in v]) + ")" for v in vectors])


def tell_parts(a):
    """Return the reply with the lattices of the finest parts."""
    return ("parts", " | ".join([str(part) for part in part_lattices(a)]), ())


def tell_dual(a):
    """Return the reply with the orders of the quotient group."""
    orders = quotient_group(a)[0]
    return ("dual", numbers_text(orders) if len(orders) > 0 else "1", ())


def tell_below(a, index):
    """Return the reply with the number of sublattices."""
    return ("below", str(sublattice_count(a.rank(), index)), ())


def tell_above(a):
    """Return the reply with the indexes of the whole lattices above."""
    return ("above", numbers_text([index for index, _ in above(a)]), ())


def numbers_text(numbers):
    """Return the numbers as they are written."""
    return " ".join([str(number) for number in numbers])


ANSWERS = {
    "form": tell_form,
    "alike": tell_alike,
    "group": tell_group,
    "short": tell_short,
    "nearest": tell_nearest,
    "parts": tell_parts,
    "dual": tell_dual,
    "below": tell_below,
    "above": tell_above,
}


def reply_to(names, line):
    """Return the reply to a line over definitions, a dict from names to lattices."""
    try:
        return answer(names, read_line(line))
    except NoText:
        return error_reply("text")
    except Malformed:
        return error_reply("malformed")
    except Refused as why:
        return error_reply("refused " + why.reason)


def error_reply(text):
    """Return the reply to an error."""
    return ("error", text, ())


def answer(names, command):
    """Return the reply to a command that has no error."""
    if command[0] not in ANSWERS:
        return ("done", "", ())
    act = ANSWERS[command[0]]
    told = with_lattices(names, command)
    return act(*told)


def with_lattices(names, command):
    """Return what stands behind the word of a command, with lattices in place of names."""
    return [lattice_of(names, item) if isinstance(item, str) else item for item in command[1:]]


def lattice_of(names, name):
    """Return the lattice that a name stands for."""
    if name not in names:
        raise Refused("name")
    return names[name]


def is_right(names, entry):
    """Return True if the value is an entry whose reply is right over the definitions."""
    if not is_tuple(entry, 2) or not is_tuple(entry[1], 3):
        return False
    line, reply = entry
    asked = asked_paper(names, line)
    if asked is None:
        return reply == reply_to(names, line)
    return is_right_paper(asked[0], asked[1], reply)


def asked_paper(names, line):
    """Return (word, lattices) for a line that asks for a paper, otherwise None.

    It is None, too, if a name is not defined: then the reply is an error, and no paper.
    """
    try:
        command = read_line(line)
        if command[0] not in ("alike", "group"):
            return None
        return command[0], with_lattices(names, command)
    except (NoText, Refused):
        return None


def is_right_paper(word, lattices, reply):
    """Return True if the reply has a paper for the lattices, and the text that belongs to it."""
    kind, text, data = reply
    # Data are not nested deep, so what is none can't be too deep for `restored`.
    if kind != word or not is_data(data):
        return False
    try:
        paper = restored(data)
    except Malformed:
        return False
    if word == "alike":
        return takes_pair(lattices[0], lattices[1], paper) and text == pair_text(paper)
    return takes_group(lattices[0], paper) and text == group_text(paper)
