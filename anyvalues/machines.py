"""Machines: whether one is right, and how it reads a log."""

from anyvalues.errors import InvalidMachine

# The place of the value that is read, and the source that stands for nothing.
NEW = -1
NOTHING = -2


def check_machine(machine):
    """Returns None if the machine is right, else raises InvalidMachine."""
    tags, registers, steps = machine
    if tags < 1:
        raise InvalidMachine("a machine reads at least one tag")
    if registers < 0:
        raise InvalidMachine("a number of registers is not below 0")
    if not steps:
        raise InvalidMachine("a machine has a standing")
    for standing in steps:
        if len(standing) != tags:
            raise InvalidMachine("a standing has cases for each tag, and for no other one")
        for cases in standing:
            for case in cases:
                _check_case(case, registers, len(steps))


def _check_case(case, registers, standings):
    condition, moves, says, following = case
    if not _places_right(condition, registers):
        raise InvalidMachine("a place in a condition is -1 or one of the registers")
    if len(moves) != registers:
        raise InvalidMachine("a case has as many sources as there are registers")
    for source in moves:
        _check_source(source, registers)
    for tag, source in says:
        if tag < 0:
            raise InvalidMachine("a tag that is said is not below 0")
        _check_source(source, registers)
    if not 0 <= following < standings:
        raise InvalidMachine("the next standing is one of the machine")


def _check_source(source, registers):
    if not NOTHING <= source < registers:
        raise InvalidMachine("a source is -2, -1 or one of the registers")


def _places_right(condition, registers):
    word = condition[0]
    if word == "not":
        return _places_right(condition[1], registers)
    if word in ("all", "any"):
        return all(_places_right(part, registers) for part in condition[1])
    return all(NEW <= place < registers for place in condition[1:])


def holds(condition, value, held):
    """True if the condition holds for the value that is read and the held values."""
    word = condition[0]
    if word == "all":
        return all(holds(part, value, held) for part in condition[1])
    if word == "any":
        return any(holds(part, value, held) for part in condition[1])
    if word == "not":
        return not holds(condition[1], value, held)
    if word in ("true", "false"):
        return word == "true"
    one = _worth(condition[1], value, held)
    if word == "empty":
        return one is None
    other = _worth(condition[2], value, held)
    if one is None or other is None:
        return False
    return one < other if word == "less" else one == other


def _worth(source, value, held):
    """What stands at a source, None if it is empty or stands for nothing."""
    if source == NEW:
        return value
    if source == NOTHING:
        return None
    return held[source]


def beginning(machine):
    """The content before any entry."""
    return (0, (None,) * machine[1])


def case_at(machine, content, entry):
    """The number of the case that is carried out at the entry, or None."""
    standing, held = content
    tag, value = entry
    for number, case in enumerate(machine[2][standing][tag]):
        if holds(case[0], value, held):
            return number
    return None


def read(machine, content, entry):
    """The content and the answer after the entry."""
    number = case_at(machine, content, entry)
    if number is None:
        return content, ()
    standing, held = content
    tag, value = entry
    _, moves, says, following = machine[2][standing][tag][number]
    said = tuple([(told, _worth(source, value, held)) for told, source in says])
    kept = tuple([_worth(source, value, held) for source in moves])
    return (following, kept), said


def answers(machine, log):
    """The answers to the log, one for each entry."""
    return answers_from(machine, beginning(machine), log)


def answers_from(machine, content, log):
    """The answers to the log, read on from the content."""
    told = []
    for entry in log:
        content, said = read(machine, content, entry)
        told.append(said)
    return tuple(told)
