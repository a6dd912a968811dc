"""The order of values: tight logs, ranks and turned machines."""


def tight(log):
    """The log with the number of different lower values in the place of each value."""
    lower = _numbered(sorted({value for tag, value in log}))
    return tuple([(tag, lower[value]) for tag, value in log])


def held_values(held):
    """The different values that are held, ascending."""
    return sorted({value for value in held if value is not None})


def ranks_of(held):
    """For each register the number of different lower values that are held, None if it is empty."""
    lower = _numbered(held_values(held))
    return tuple([None if value is None else lower[value] for value in held])


def _numbered(values):
    return {value: number for number, value in enumerate(values)}


def turned(machine):
    """The machine with both places of every "less" exchanged."""
    tags, registers, steps = machine
    return (tags, registers, tuple([_turned_standing(standing) for standing in steps]))


def _turned_standing(standing):
    return tuple([
        tuple([(_turned_condition(condition), moves, says, following) for condition, moves, says, following in cases])
        for cases in standing
    ])


def _turned_condition(condition):
    """The condition with both places of every "less" in it exchanged."""
    word = condition[0]
    if word == "less":
        return (word, condition[2], condition[1])
    if word == "not":
        return (word, _turned_condition(condition[1]))
    if word in ("all", "any"):
        return (word, tuple([_turned_condition(part) for part in condition[1]]))
    return condition
