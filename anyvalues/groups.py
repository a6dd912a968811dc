"""Groups of machines that are alike."""

from anyvalues.kinds import kinds_from
from anyvalues.rows import row_beginning


def groups_of(machines):
    """The groups of machines that are alike, as indices; all machines read the same number of tags."""
    # Of equal machines only the first one is looked through.
    firsts = [machines.index(machine) for machine in machines]
    starts = [(first, row_beginning((machines[first],))) for first in firsts]
    # Nothing is held at the beginning: machines are alike exactly if they begin with types of one kind.
    kinds = kinds_from(machines, starts)
    groups = {}
    for number, start in enumerate(starts):
        groups.setdefault(kinds.kind(start), []).append(number)
    return tuple([tuple(group) for group in groups.values()])
