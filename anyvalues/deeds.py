"""What deeds do with machines that are kept by names, in a dict."""

from anyvalues.alike import parting
from anyvalues.errors import InvalidMachine, NoMachine
from anyvalues.joining import behind, beside
from anyvalues.least import least_machine
from anyvalues.machines import check_machine
from anyvalues.orders import turned


def machine_of(machines, name):
    """The machine of the name."""
    if name not in machines:
        raise NoMachine("the name has no machine")
    return machines[name]


def parting_of(machines, one, other):
    """The least parting log of the machines of two names, or None."""
    first, second = _two_that_read_alike(machines, one, other)
    return parting(first, second)


def carried_out(machines, deed):
    """The machines after the deed, a new dict; the deed is none of "undo" and "redo"."""
    action = DEEDS[deed[0]]
    name = deed[1]
    changed = action(machines, deed)
    grown = {kept: machines[kept] for kept in machines}
    if changed is None:
        del grown[name]
    else:
        grown[name] = changed
    return grown


def _two_that_read_alike(machines, one, other):
    """The machines of two names, which must read the same number of tags."""
    first = machine_of(machines, one)
    second = machine_of(machines, other)
    if first[0] != second[0]:
        raise InvalidMachine("the machines do not read the same number of tags")
    return first, second


def _put(machines, deed):
    machine = deed[2]
    check_machine(machine)
    return machine


def _beside(machines, deed):
    first, second = _two_that_read_alike(machines, deed[2], deed[3])
    return beside(first, second)


def _behind(machines, deed):
    return behind(machine_of(machines, deed[2]), machine_of(machines, deed[3]))


def _turn(machines, deed):
    return turned(machine_of(machines, deed[1]))


def _reduce(machines, deed):
    return least_machine(machine_of(machines, deed[1]))


def _drop(machines, deed):
    machine_of(machines, deed[1])
    return None


# What becomes of the name of each deed: its machine, or None if it is dropped.
DEEDS = {
    "put": _put, "beside": _beside, "behind": _behind, "turn": _turn, "reduce": _reduce, "drop": _drop,
}
