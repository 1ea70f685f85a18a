"""Words of small letters, and numbers as they are written."""

MOST_LETTERS = 8


def is_word(value):
    """Return True if the value is a string of 1 to 8 small letters."""
    if not isinstance(value, str) or not 1 <= len(value) <= MOST_LETTERS:
        return False
    return value.isascii() and value.isalpha() and value.islower()


def is_number(word, most):
    """Return True if a string is how an integer of at most `most` digits is written."""
    digits = word.removeprefix("-")
    # The length comes first: what is too long is not looked at any further.
    if len(digits) > most or not digits.isascii() or not digits.isdigit():
        return False
    return not digits.startswith("0") or word == "0"
