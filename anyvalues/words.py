"""The words of texts: numbers, places, sources and conditions."""

from anyvalues.errors import BadText
from anyvalues.machines import NEW, NOTHING

MOST_DIGITS = 60
MOST_DEPTH = 20


def number_of(word, line):
    """The number that a word writes in decimal digits, without sign and needless zeros."""
    if not word.isdigit() or len(word) > MOST_DIGITS:
        raise BadText(line)
    if word[0] == "0" and word != "0":
        raise BadText(line)
    return int(word)


def place_of(word, line):
    """The place that a word writes."""
    if word == "v":
        return NEW
    if not word.startswith("r"):
        raise BadText(line)
    return number_of(word[1:], line)


def source_of(word, line):
    """The source that a word writes."""
    if word == "none":
        return NOTHING
    return place_of(word, line)


def source_word(source):
    """A written source; a place is written as a source, too."""
    if source == NEW:
        return "v"
    if source == NOTHING:
        return "none"
    return f"r{source}"


def condition_of(word, line):
    """The condition that a word writes."""
    condition, end = _condition_at(word, 0, 1, line)
    if end != len(word):
        raise BadText(line)
    return condition


def _condition_at(word, start, depth, line):
    """The condition that begins at start, and where it ends; depth is its own within the whole."""
    if depth > MOST_DEPTH:
        raise BadText(line)
    end = start
    while end < len(word) and word[end].isalpha():
        end += 1
    name = word[start:end]
    if name in ("true", "false"):
        return (name,), end
    if word[end:end + 1] != "(":
        raise BadText(line)
    if name in ("less", "same"):
        return _places_at(word, name, 2, end + 1, line)
    if name == "empty":
        return _places_at(word, name, 1, end + 1, line)
    if name not in ("not", "all", "any"):
        raise BadText(line)
    parts, end = _parts_at(word, end + 1, depth + 1, line)
    if name != "not":
        return (name, parts), end
    if len(parts) != 1:
        raise BadText(line)
    return (name, parts[0]), end


def _places_at(word, name, many, start, line):
    """The condition of this name, whose places begin at start, and where it ends."""
    end = word.find(")", start)
    if end < 0:
        raise BadText(line)
    pieces = word[start:end].split(",")
    if len(pieces) != many:
        raise BadText(line)
    places = tuple([place_of(piece, line) for piece in pieces])
    return (name, *places), end + 1


def _parts_at(word, start, depth, line):
    """The conditions that begin at start, parted by commas, and where their bracket is behind them."""
    if word[start:start + 1] == ")":
        return (), start + 1
    parts = []
    mark = ","
    end = start - 1
    while mark == ",":
        part, end = _condition_at(word, end + 1, depth, line)
        parts.append(part)
        mark = word[end:end + 1]
    if mark != ")":
        raise BadText(line)
    return tuple(parts), end + 1
