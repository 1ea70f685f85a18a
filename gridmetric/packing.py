"""Papers as data, and data as text (point 8.4)."""

from gridmetric.errors import Malformed, NoText
from gridmetric.grid import Grid
from gridmetric.whole import is_integer
from gridmetric.words import is_number, is_word

MOST_DIGITS = 4000
# The greatest integer of 4000 digits has so many bits; what has more is never written out,
# as Python itself refuses to do so for a few more digits.
MOST_BITS = 13288
MOST_DEEP = 40


def plain(value):
    """Return the value with each Grid, at any depth of tuples, as ("grid", rows)."""
    if isinstance(value, Grid):
        return ("grid", value.rows)
    if isinstance(value, tuple):
        return tuple([plain(item) for item in value])
    return value


def restored(value):
    """Return the value with each tuple ("grid", rows), at any depth of tuples, as a Grid."""
    if not isinstance(value, tuple):
        return value
    if len(value) == 2 and value[0] == "grid":
        return Grid(value[1])
    return tuple([restored(item) for item in value])


def is_data(value, deep=MOST_DEEP):
    """Return True if the value is data with tuples nested at most so deep."""
    if isinstance(value, tuple):
        return deep > 0 and all([is_data(item, deep - 1) for item in value])
    if is_integer(value):
        return value.bit_length() <= MOST_BITS and len(str(abs(value))) <= MOST_DIGITS
    return is_word(value)


def write_data(value):
    """Return the written form of data."""
    if not is_data(value):
        raise Malformed("no data")
    return written(value)


def written(data):
    """Return the written form of what surely is data."""
    if isinstance(data, tuple):
        return "(" + " ".join([written(item) for item in data]) + ")"
    return str(data)


def read_data(text):
    """Return the data with this written form."""
    if not isinstance(text, str):
        raise NoText(0)
    data = parsed(text)
    # Reading takes any number of spaces; so the text has to be what is written.
    if written(data) != text:
        raise NoText(0)
    return data


def parsed(text):
    """Return the data with this written form, with any spaces at all between the signs."""
    # The items of each tuple that is not yet closed, below them those of the whole text.
    opened = [[]]
    for word in text.replace("(", " ( ").replace(")", " ) ").split(" "):
        if word == "(" and len(opened) <= MOST_DEEP:
            opened.append([])
        elif word == ")" and len(opened) > 1:
            items = opened.pop()
            opened[-1].append(tuple(items))
        elif word != "":
            opened[-1].append(single(word))
    if len(opened) != 1 or len(opened[0]) != 1:
        raise NoText(0)
    return opened[0][0]


def single(word):
    """Return the integer or the word that is written so."""
    if is_number(word, MOST_DIGITS):
        return int(word)
    if is_word(word):
        return word
    raise NoText(0)
