"""Which held values a machine needs, and which types do the same with them."""

from anyvalues.kinds import kinds_from, kinds_that_come_about, lowest_spot
from anyvalues.rows import row_beginning, row_step


def needed(machine, kind):
    """The needed ranks of the type, ascending."""
    node = (0, kind)
    return kinds_from((machine,), (node,)).needed(node)


def one_kind(one, kind, other, another):
    """True if the types, of the first machine and of the other one, are of one kind, otherwise False."""
    nodes = ((0, kind), (1, another))
    kinds = kinds_from((one, other), nodes)
    return kinds.kind(nodes[0]) == kinds.kind(nodes[1])


def kinds_of(machine):
    """For each kind, in order, the first found type of it."""
    return first_found(machine, kinds_that_come_about(machine))


def first_found(machine, kinds):
    """The first found type of each of the kinds of the machine, in order."""
    found = [row_beginning((machine,))]
    known = {kinds.kind((0, found[0])): True}
    at = 0
    while at < len(found):
        behind = [step.after for step in steps_among(machine, found[at], kinds.needed((0, found[at])))]
        at += 1
        for kind in behind:
            number = kinds.kind((0, kind))
            if number not in known:
                known[number] = True
                found.append(kind)
    return tuple(found)


def steps_among(machine, kind, ranks):
    """The steps of a type, tag by tag, at the lowest spot for each spot among its needed ranks."""
    spots = [lowest_spot(ranks, spot) for spot in range(2 * len(ranks) + 1)]
    return [row_step((machine,), kind, tag, spot) for tag in range(machine[0]) for spot in spots]
