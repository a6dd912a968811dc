"""Trimmed machines: without the standings and cases that cannot come about."""

from anyvalues.machines import case_at
from anyvalues.rows import row_beginning, row_steps, spots_held


def trimmed(machine):
    """The machine without the standings and cases that cannot come about."""
    found = _carried_out(machine)
    # The standing 0 comes about before any case is carried out.
    come = {0: True}
    for before, tag, number in found:
        come[machine[2][before][tag][number][3]] = True
    standings = sorted(come)
    renumbered = {standing: at for at, standing in enumerate(standings)}
    steps = [_standing_left(machine, standing, found, renumbered) for standing in standings]
    return (machine[0], machine[1], tuple(steps))


def _carried_out(machine):
    """The cases that come about, as standing, tag and number; a dict of True."""
    row = (machine,)
    cases = sum([len(tagged) for standing in machine[2] for tagged in standing])
    kinds = [row_beginning(row)]
    known = {kinds[0]: True}
    found = {}
    at = 0
    # Most machines are trimmed already: all their cases are found long before all their types.
    while at < len(kinds) and len(found) < cases:
        steps = row_steps(row, kinds[at])
        at += 1
        for step in steps:
            number = _case_of(machine, step)
            if number is not None:
                found[(step.before[0], step.tag, number)] = True
            if step.after not in known:
                known[step.after] = True
                kinds.append(step.after)
    return found


def _case_of(machine, step):
    """The number of the case that is carried out at the step, or None."""
    standing, ranks = step.before
    return case_at(machine, (standing, spots_held(ranks)), (step.tag, step.spot))


def _standing_left(machine, standing, found, renumbered):
    """The cases of a standing that are left, tag by tag, with the new numbers of the standings."""
    tagged = []
    for tag, cases in enumerate(machine[2][standing]):
        left = [case for number, case in enumerate(cases) if (standing, tag, number) in found]
        tagged.append(tuple([
            (condition, moves, says, renumbered[following])
            for condition, moves, says, following in left
        ]))
    return tuple(tagged)
