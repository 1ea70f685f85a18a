"""The errors that the program raises."""


class Fault(ValueError):
    """The base class of all errors of the program."""


class Malformed(Fault):
    """An argument does not have the form that is asked for."""


class Refused(Fault):
    """Something is not done; the reason is a string of small letters."""

    def __init__(self, reason):
        self.reason = reason


class NoText(Fault):
    """A text cannot be read; at is a position in it, from 0."""

    def __init__(self, at):
        self.at = at
