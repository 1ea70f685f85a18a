"""Entries as text, and the first one that is not right (points 8.6 and 8.7)."""

from gridmetric.checker import is_tuple
from gridmetric.errors import Malformed, NoText
from gridmetric.packing import read_data, write_data
from gridmetric.replies import is_right
from gridmetric.sheet import defined_by
from gridmetric.words import is_word

SIGNS = ("> ", "= ", "# ")


def write_log(entries):
    """Return the written form of a list of entries."""
    return "".join([entry_text(entry) for entry in entries])


def entry_text(entry):
    """Return the three lines of an entry."""
    if not is_tuple(entry, 2) or not is_tuple(entry[1], 3):
        raise Malformed("no pair of a line and a reply")
    line, (kind, text, data) = entry
    if not is_one_line(line) or not is_word(kind) or not is_one_line(text):
        raise Malformed("a line, a kind or a text that can't be written")
    return "".join(["> ", line, "\n= ", kind, " ", text, "\n# ", write_data(data), "\n"])


def is_one_line(value):
    """Return True if the value is a string without a line feed."""
    return isinstance(value, str) and "\n" not in value


def read_log(text):
    """Return the list of entries with this written form."""
    if not isinstance(text, str):
        raise NoText(0)
    lines = text.split("\n")
    # What stands behind the last line feed; it is no line, as that ends with a line feed.
    rest = lines.pop()
    told = [read_part(line, k) for k, line in enumerate(lines)]
    if rest != "" or len(told) % 3 != 0:
        raise NoText(len(told))
    entries = []
    for k in range(0, len(told), 3):
        kind, body = told[k + 1]
        entries.append((told[k], (kind, body, told[k + 2])))
    return entries


def read_part(line, k):
    """Return what the line with the number k tells: a line, (kind, text), or data."""
    sign = SIGNS[k % 3]
    if not line.startswith(sign):
        raise NoText(k)
    told = line.removeprefix(sign)
    if sign == "> ":
        return told
    if sign == "= ":
        return read_kind(told, k)
    try:
        return read_data(told)
    except NoText:
        raise NoText(k) from None


def read_kind(told, k):
    """Return the kind and the text of a reply in the line with the number k."""
    kind, space, text = told.partition(" ")
    if space == "" or not is_word(kind):
        raise NoText(k)
    return kind, text


def first_wrong(entries):
    """Return the index of the first item that is no right entry, or -1."""
    names = {}
    for k, entry in enumerate(entries):
        if not is_right(names, entry):
            return k
        defined = defined_by(entry[0])
        if defined is not None:
            names[defined[0]] = defined[1]
    return -1
