"""Traces: what is carried out along a log, and the spots of its values."""

from anyvalues.machines import beginning, case_at, read
from anyvalues.orders import held_values, tight
from anyvalues.spots import spot_at, top_for, value_at
from anyvalues.types import step_of, type_of


def trace(machine, log):
    """For each entry the number of its case or None, the type before it, and the spot of its value."""
    content = beginning(machine)
    told = []
    for entry in log:
        spot = spot_at(held_values(content[1]), entry[1])
        told.append((case_at(machine, content, entry), type_of(content), spot))
        content = read(machine, content, entry)[0]
    return tuple(told)


def spots_along(machine, log):
    """For each entry of the log its tag and its spot."""
    return tuple([(entry[0], step[2]) for entry, step in zip(log, trace(machine, log))])


def type_behind(machine, spots):
    """The type to which the log of spots leads from the beginning."""
    kind = type_of(beginning(machine))
    for tag, spot in spots:
        kind = step_of(machine, kind, tag, spot)[0]
    return kind


def log_of_spots(machine, spots):
    """A log in tight form with this log of spots."""
    content = beginning(machine)
    top = top_for(len(spots))
    log = []
    for tag, spot in spots:
        entry = (tag, value_at(held_values(content[1]), spot, top))
        content = read(machine, content, entry)[0]
        log.append(entry)
    return tight(log)
