"""What can come about in a machine, and the least logs to it."""

from anyvalues.leastlogs import least_log
from anyvalues.machines import case_at
from anyvalues.rows import every_step, row_beginning, spots_held
from anyvalues.types import types_of

RELATIONS = ("empty", "less", "more", "same")


def log_to(machine, kind):
    """The least log to the type, or None if it cannot come about."""
    row = (machine,)
    if kind == row_beginning(row):
        return ()
    return least_log(row, every_step, lambda step: step.after == kind)


def case_log(machine, standing, tag, case):
    """The least log at whose last entry the case of this number is carried out, or None."""
    def carried_out(step):
        before, ranks = step.before
        if (before, step.tag) != (standing, tag):
            return False
        return case_at(machine, (before, spots_held(ranks)), (tag, step.spot)) == case

    return least_log((machine,), every_step, carried_out)


def relations(machine, standing, one, other):
    """The relations of two registers in the standing that come about, a tuple."""
    found = {}
    for kind in types_of(machine):
        if kind[0] == standing:
            found[_relation(kind[1][one], kind[1][other])] = True
    return tuple([name for name in RELATIONS if name in found])


def _relation(one, other):
    if one is None or other is None:
        return "empty"
    if one == other:
        return "same"
    return "less" if one < other else "more"
