"""The errors that the program raises."""


class Fault(ValueError):
    """The base class of all errors of the program."""


class Malformed(Fault):
    """A value has not the form that is asked for."""


class Refused(Fault):
    """A question goes beyond a told bound; the reason is a word."""

    def __init__(self, reason):
        self.reason = reason


class NoText(Fault):
    """A text cannot be read from this place on."""

    def __init__(self, at):
        self.at = at
