"""The text of a log, and the log of a text."""

from anyvalues.errors import BadText
from anyvalues.words import number_of


def write_log(log):
    """The text of the log."""
    return "".join([f"{tag} {value}\n" for tag, value in log])


def read_log(text):
    """The log of the text; raises BadText."""
    lines = text.split("\n")
    unended = lines.pop()
    log = tuple([_read_entry(line, at + 1) for at, line in enumerate(lines)])
    if unended:
        raise BadText(len(lines) + 1)
    return log


def _read_entry(text, line):
    """The entry of a line."""
    words = text.split(" ")
    if len(words) != 2:
        raise BadText(line)
    return (number_of(words[0], line), _value_of(words[1], line))


def _value_of(word, line):
    """The value that a word writes, with a sign if it is negative."""
    if not word.startswith("-"):
        return number_of(word, line)
    value = -number_of(word[1:], line)
    if value == 0:
        raise BadText(line)
    return value
