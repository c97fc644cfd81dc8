"""Consoles, which keep definitions and entries (point 17.4)."""

from probeweb.errors import Refused
from probeweb.log import write_log
from probeweb.replies import defined_by, reply_to


class Console:
    """The entries of a worksheet, and the structures that its lines define."""

    def __init__(self, *, most=300):
        self.most = most
        self.entries = []
        self.defined = {}

    def __len__(self):
        return len(self.entries)

    def __iter__(self):
        return iter(self.entries)

    def enter(self, line):
        """Adds the entry of a line, and returns the reply."""
        if len(self.entries) >= self.most:
            raise Refused("lines")
        reply = reply_to(self.defined, line)
        defined = defined_by(self.defined, line)
        if defined is not None:
            self.defined[defined[0]] = defined[1]
        self.entries.append((line, reply))
        return reply

    def names(self):
        """A new dict from the defined names to their structures."""
        return dict(self.defined)

    def log(self):
        """The written form of the log."""
        return write_log(self.entries)
