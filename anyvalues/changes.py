"""Which changes of logs matter to a machine, and whether the values that it says fall.

Which changes matter is asked of the least machine: it gives the same answers, and different
contents of it can always be parted, as it holds needed values alone.
"""

from anyvalues.apart import content_behind, entries_among, parting_on
from anyvalues.kinds import kinds_kept
from anyvalues.least import least_machine
from anyvalues.leastlogs import least_log
from anyvalues.machines import NOTHING, beginning
from anyvalues.orders import held_values, tight
from anyvalues.rows import every_step
from anyvalues.spots import top_for


def doubling_matters(machine):
    """A witness that it matters if an entry comes twice running, or None."""
    return _witness(machine, _single_entries, _doubled)


def dropping_matters(machine):
    """A witness that it matters if an entry is dropped, or None."""
    return _witness(machine, _single_entries, _dropped)


def swapping_matters(machine):
    """A witness that it matters if an entry is swapped with the next one, or None."""
    return _witness(machine, _pairs_of_entries, _swapped)


def _doubled(entries):
    return entries * 2


def _dropped(entries):
    return entries[1:]


def _swapped(entries):
    return (entries[1], entries[0])


def _single_entries(machine, values, top):
    return [(entry,) for entry in entries_among(machine, values, top)]


def _pairs_of_entries(machine, values, top):
    """All pairs of entries, the lesser one first: what it matters to swap them is the same both ways."""
    found = []
    for entry in entries_among(machine, values, top):
        wider = held_values((*values, entry[1]))
        found.extend([(entry, following) for following in entries_among(machine, wider, top) if entry < following])
    return found


def _witness(machine, entries_of, changed):
    """A witness that the change of some entries matters, or None."""
    least = least_machine(machine)
    kinds = kinds_kept(least)
    # A way to a standing has an entry for each other one at most; two entries are changed at most.
    top = top_for(len(least[2]) + 2 + kinds.entries())
    for log, content in _ways_to_standings(least, top):
        for entries in entries_of(least, held_values(content[1]), top):
            one = content_behind(least, content, entries)
            other = content_behind(least, content, changed(entries))
            if one != other:
                whole = log + entries + parting_on(least, kinds, one, other, top)
                return (tight(whole), len(log), len(whole) - 1)
    return None


def _ways_to_standings(machine, top):
    """For each standing that comes about a log to it and the content behind; a list, shorter logs first."""
    found = [((), beginning(machine))]
    known = {0: True}
    at = 0
    while at < len(found):
        log, content = found[at]
        at += 1
        for entry in entries_among(machine, held_values(content[1]), top):
            behind = content_behind(machine, content, (entry,))
            if behind[0] not in known:
                known[behind[0]] = True
                found.append(((*log, entry), behind))
    return found


def falling(machine, tag):
    """The least log at whose last entry the values said with the tag fall, or None."""
    def falls(step):
        said = [spot for told, spot in step.said[0] if told == tag and spot is not None]
        last = step.before[-1][-1]
        if last is not None:
            said = [2 * last + 1, *said]
        return any([before > behind for before, behind in zip(said, said[1:])])

    return least_log((_remembering(machine, tag),), every_step, falls)


def _remembering(machine, tag):
    """The machine with one more register, the last one, that holds the last value said with the tag."""
    tags, registers, steps = machine
    return (tags, registers + 1, tuple([
        tuple([_cases_remembering(cases, tag, registers) for cases in standing])
        for standing in steps
    ]))


def _cases_remembering(cases, tag, last):
    """The cases with one more source, for the register last."""
    found = []
    for condition, moves, says, following in cases:
        sources = [source for told, source in says if told == tag and source != NOTHING]
        for source in reversed(sources):
            # An empty register says None, which is no value: then the one said before is the last one.
            filled = ("all", (condition, ("not", ("empty", source))))
            found.append((filled, (*moves, source), says, following))
        found.append((condition, (*moves, last), says, following))
    return tuple(found)
