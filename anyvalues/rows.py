"""Rows: machines that read the same entries side by side.

A joint type of a row is a tuple of the standings of its machines and, last, the ranks of all their
registers together. A type of one machine is a joint type of the row with this machine alone.
"""

from anyvalues.machines import read
from anyvalues.orders import held_values, ranks_of


class Step:
    """What a row does from a joint type at an entry.

    said has the answer of each machine, with spots in the place of values; kept are the spots of
    the values that are held after the step, ascending.
    """

    def __init__(self, before, tag, spot, after, said, kept):
        self.before = before
        self.tag = tag
        self.spot = spot
        self.after = after
        self.said = said
        self.kept = kept


def every_step(step):
    """True for every step."""
    return True


def no_step(step):
    """False for every step."""
    return False


def answers_part(step):
    """True if the answers of the last two machines differ."""
    return step.said[-2] != step.said[-1]


def row_beginning(row):
    """The joint type before any entry."""
    registers = sum([machine[1] for machine in row])
    return (0,) * len(row) + ((None,) * registers,)


def spots_held(ranks):
    """The held values, with the spot of each one in its place."""
    return tuple([None if rank is None else 2 * rank + 1 for rank in ranks])


def different(ranks):
    """The number of different ranks."""
    return len({rank for rank in ranks if rank is not None})


def row_step(row, joint, tag, spot):
    """The step of a joint type by a tag and a spot."""
    # Spots have the order of the values that they stand for, and machines see nothing else of values.
    held = spots_held(joint[-1])
    standings = []
    said = []
    behind = []
    start = 0
    for machine, standing in zip(row, joint):
        end = start + machine[1]
        content, answer = read(machine, (standing, held[start:end]), (tag, spot))
        standings.append(content[0])
        behind.extend(content[1])
        said.append(answer)
        start = end
    after = (*standings, ranks_of(behind))
    return Step(joint, tag, spot, after, tuple(said), tuple(held_values(behind)))


def row_steps(row, joint):
    """All steps of a joint type, tag by tag and spot by spot."""
    tags = row[0][0]
    spots = 2 * different(joint[-1]) + 1
    return [row_step(row, joint, tag, spot) for tag in range(tags) for spot in range(spots)]


def told_joints(row, lets, faulty):
    """All joint types that come about by steps that are let by, in the order in which they are found.

    None if one of these steps is faulty.
    """
    told = [row_beginning(row)]
    known = {told[0]: True}
    at = 0
    while at < len(told):
        steps = row_steps(row, told[at])
        at += 1
        for step in steps:
            if not lets(step):
                continue
            if faulty(step):
                return None
            if step.after not in known:
                known[step.after] = True
                told.append(step.after)
    return tuple(told)


def fits(row, joint):
    """True if the tuple is a joint type of the row: a lot for other machines is not right for these."""
    ranks = joint[-1]
    if len(joint) != len(row) + 1 or len(ranks) != sum([machine[1] for machine in row]):
        return False
    if ranks_of(ranks) != ranks:
        return False
    return all(0 <= standing < len(machine[2]) for machine, standing in zip(row, joint))
