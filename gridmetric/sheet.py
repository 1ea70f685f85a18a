"""The lines of a worksheet and their commands (points 8.1 and 8.2)."""

from gridmetric.errors import NoText
from gridmetric.lattice import read_lattice
from gridmetric.words import is_number, is_word

MOST_SIGNS = 2000
MOST_DIGITS = 4
MOST_NUMBER = 9999
PERCENT = 37
COMMANDS = ("form", "alike", "group", "short", "nearest", "parts", "dual", "below", "above")
NAME_ALONE = ("form", "group", "parts", "dual", "above")


def is_name(value):
    """Return True if the value is a name that may stand for a lattice."""
    return is_word(value) and value not in COMMANDS and value != "let"


def read_line(line):
    """Return the command of a line, a tuple that begins with its word."""
    if not is_line(line):
        raise NoText(0)
    words = line.split()
    if len(words) == 0 or line.startswith("#"):
        return ("empty",)
    if words[0] == "let":
        return read_let(line)
    return read_words(words[0], words[1:])


def is_line(value):
    """Return True if the value is a string of so many of the allowed signs."""
    if not isinstance(value, str) or len(value) > MOST_SIGNS:
        return False
    return all([" " <= sign <= "~" and ord(sign) != PERCENT for sign in value])


def read_let(line):
    """Return the command of a line whose first word is `let`."""
    # Where there is no sign, the text is empty, which is that of no lattice.
    head, _, text = line.partition("=")
    words = head.split()
    if len(words) != 2:
        raise NoText(0)
    return ("let", checked_name(words[1]), read_lattice(text.strip()))


def read_words(word, rest):
    """Return the command of a word and the words behind it."""
    if word in NAME_ALONE and len(rest) == 1:
        return (word, checked_name(rest[0]))
    if word == "alike" and len(rest) == 2:
        return (word, checked_name(rest[0]), checked_name(rest[1]))
    if word == "short" and len(rest) == 2:
        return (word, checked_name(rest[0]), read_number(rest[1], 0))
    if word == "below" and len(rest) == 2:
        return (word, checked_name(rest[0]), read_number(rest[1], 1))
    if word == "nearest" and len(rest) > 3 and rest[-2] == "/":
        a = tuple([read_number(item, -MOST_NUMBER) for item in rest[1:-2]])
        return (word, checked_name(rest[0]), a, read_number(rest[-1], 1))
    raise NoText(0)


def checked_name(word):
    """Return the word if it is a name."""
    if not is_name(word):
        raise NoText(0)
    return word


def read_number(word, least):
    """Return the number that is written so, if it is not below the least one."""
    if not is_number(word, MOST_DIGITS) or int(word) < least:
        raise NoText(0)
    return int(word)


def defined_by(line):
    """Return the pair of a name and a lattice that the line defines, or None."""
    try:
        command = read_line(line)
    except NoText:
        return None
    return command[1:] if command[0] == "let" else None
