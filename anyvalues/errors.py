"""The errors that the program raises."""


class ValuesError(ValueError):
    """The base class of all of them."""


class InvalidMachine(ValuesError):
    """A machine is not right, or two machines do not fit together."""


class BadText(ValuesError):
    """A text is not of its form; line is the number of its first wrong line, from 1."""

    def __init__(self, line):
        # The text shows no number: a very great one could not be written.
        ValuesError.__init__(self, "a line of the text is not right")
        self.line = line


class NoMachine(ValuesError):
    """A name has no machine."""


class NothingToUndo(ValuesError):
    """There is no deed to undo."""


class NothingToRedo(ValuesError):
    """There is no undone deed to carry out again."""
