"""Groups of machines that are alike."""

from anyvalues.kinds import kinds_from
from anyvalues.rows import row_beginning


def groups_of(machines):
    """The groups of machines that are alike, as indices; all machines read the same number of tags."""
    # Nothing is held at the beginning: machines are alike exactly if they begin with types of one kind.
    starts = [(number, row_beginning((machine,))) for number, machine in enumerate(machines)]
    kinds = kinds_from(machines, starts)
    groups = {}
    for start in starts:
        groups.setdefault(kinds.kind(start), []).append(start[0])
    return tuple([tuple(group) for group in groups.values()])
