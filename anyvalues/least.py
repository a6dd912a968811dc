"""The least machine: one standing for each kind, and no register but for needed values."""

from anyvalues.kinds import kinds_that_come_about
from anyvalues.machines import NEW, NOTHING
from anyvalues.needs import first_found, steps_among


def least_machine(machine):
    """The least machine that is alike to the machine."""
    kinds = kinds_that_come_about(machine)
    found = first_found(machine, kinds)
    registers = max([len(kinds.needed((0, kind))) for kind in found])
    standing = {kinds.kind((0, kind)): number for number, kind in enumerate(found)}
    return (machine[0], registers, tuple([_standing(machine, kind, kinds, standing, registers) for kind in found]))


def _standing(machine, kind, kinds, standing, registers):
    """The cases of the standing of a kind, tag by tag."""
    ranks = kinds.needed((0, kind))
    cases = []
    for step in steps_among(machine, kind, ranks):
        behind = kinds.needed((0, step.after))
        moves = [_source(step, step.kept[rank], ranks) for rank in behind]
        moves = tuple(moves + [NOTHING] * (registers - len(moves)))
        says = tuple([(tag, _source(step, spot, ranks)) for tag, spot in step.said[0]])
        at = len(cases) % (2 * len(ranks) + 1)
        cases.append((_condition(at, len(ranks)), moves, says, standing[kinds.kind((0, step.after))]))
    spots = 2 * len(ranks) + 1
    return tuple([tuple(cases[start:start + spots]) for start in range(0, len(cases), spots)])


def _source(step, spot, ranks):
    """The source of the value of a spot, from registers that hold the needed ranks."""
    if spot is None:
        return NOTHING
    return NEW if spot == step.spot else ranks.index(spot // 2)


def _condition(spot, many):
    """The condition for a spot among so many values, held ascending in the registers from 0."""
    at = spot // 2
    if spot % 2 == 1:
        return ("same", NEW, at)
    if many == 0:
        return ("true",)
    if at == 0:
        return ("less", NEW, 0)
    if at == many:
        return ("less", many - 1, NEW)
    return ("all", (("less", at - 1, NEW), ("less", NEW, at)))
