"""The console: definitions, and what was entered (point 8.5)."""

from gridmetric.errors import Refused
from gridmetric.replies import reply_to
from gridmetric.sheet import defined_by

MOST_LINES = 500


class Console:
    """Keeps the names that stand for lattices, and the entries: pairs of a line and a reply."""

    def __init__(self):
        self._names = {}
        self._entries = []

    def __len__(self):
        return len(self._entries)

    def enter(self, line):
        """Return the reply to a line, and keep both as an entry."""
        if len(self._entries) >= MOST_LINES:
            raise Refused("lines")
        reply = reply_to(self._names, line)
        defined = defined_by(line)
        if defined is not None:
            self._names[defined[0]] = defined[1]
        self._entries.append((line, reply))
        return reply

    def entries(self):
        """Return a new list of the entries."""
        return list(self._entries)

    def names(self):
        """Return a new dict of the definitions."""
        return dict(self._names)
