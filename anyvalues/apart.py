"""Two contents of a machine that are read on from, with room enough between their values."""

from anyvalues.machines import read
from anyvalues.orders import held_values
from anyvalues.spots import value_at


def entries_among(machine, values, top):
    """All entries that differ in the tag or in their spot among the values, ascending; a list."""
    spots = 2 * len(values) + 1
    return [(tag, value_at(values, spot, top)) for tag in range(machine[0]) for spot in range(spots)]


def content_behind(machine, content, entries):
    """The content after the entries."""
    for entry in entries:
        content = read(machine, content, entry)[0]
    return content


def parting_on(machine, kinds, one, other, top):
    """A parting log from two contents that are not alike; kinds are those of the machine, all kept."""
    entries = 0
    while not kinds.apart(one, other, entries):
        entries += 1
    log = []
    for left in reversed(range(entries)):
        entry = _telling_entry(machine, kinds, one, other, top, left)
        one = content_behind(machine, one, (entry,))
        other = content_behind(machine, other, (entry,))
        log.append(entry)
    return tuple(log)


def _telling_entry(machine, kinds, one, other, top, left):
    """An entry that parts two contents, or behind which so many entries do."""
    for entry in entries_among(machine, held_values(one[1] + other[1]), top):
        here, said = read(machine, one, entry)
        there, also = read(machine, other, entry)
        if said != also or kinds.apart(here, there, left):
            return entry
    return None
