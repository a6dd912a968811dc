"""Machines put beside or behind one another.

The places of a joined machine are those of the first machine, and behind them the registers of the
second one. What the second one does is told with these: while it reads, each of its registers
stands for the source of what it holds then.
"""

from anyvalues.facts import no_facts
from anyvalues.machines import NEW, NOTHING

TRUE = ("true",)
FALSE = ("false",)


class Way:
    """A way through the cases of the second machine, while it reads.

    conditions are those under which it is gone, if no way before it is; facts are what is known then.
    """

    def __init__(self, facts, conditions, standing, held, said):
        self.facts = facts
        self.conditions = conditions
        self.standing = standing
        self.held = held
        self.said = said


def beside(one, other):
    """The machine that reads each entry with both machines."""
    return _joined(one, other, _cases_beside)


def behind(one, other):
    """The machine in which the other machine reads what the first one says."""
    return _joined(one, other, _cases_behind)


def _joined(one, other, cases_of):
    """The joined machine with the told cases for two standings and a tag."""
    tags, registers, steps = one
    standings = []
    for mine in range(len(steps)):
        for its in range(len(other[2])):
            standings.append(tuple([cases_of(one, mine, other, its, tag) for tag in range(tags)]))
    return (tags, registers + other[1], tuple(standings))


def _registers_behind(one, other):
    """The places of the second machine's registers."""
    return tuple(range(one[1], one[1] + other[1]))


def _with_idle(machine, standing, tag):
    """The cases for a standing and a tag, and one more that does what is done if none is carried out."""
    return (*machine[2][standing][tag], (TRUE, tuple(range(machine[1])), (), standing))


def _cases_beside(one, mine, other, its, tag):
    held = _registers_behind(one, other)
    cases = []
    for condition, moves, says, following in _with_idle(one, mine, tag):
        for told, kept, also, behind_it in _with_idle(other, its, tag):
            both = _all_of((condition, _placed(told, NEW, held)))
            said = says + _said(also, NEW, held)
            standing = following * len(other[2]) + behind_it
            cases.append((both, moves + _sources(kept, NEW, held), said, standing))
    return _without_vain_ones(cases)


def _without_vain_ones(cases):
    """The cases without those that cannot hold, or stand behind one that always does."""
    found = []
    for case in cases:
        if case[0] != FALSE:
            found.append(case)
        if case[0] == TRUE:
            break
    return tuple(found)


def _cases_behind(one, mine, other, its, tag):
    cases = []
    facts = no_facts()
    for condition, moves, says, following in one[2][mine][tag]:
        here = facts.assuming(condition, True)
        if here is not None:
            ways = [Way(here, (condition,), its, _registers_behind(one, other), ())]
            for word, source in says:
                if word < other[0] and source != NOTHING:
                    ways = [longer for way in ways for longer in _read_on(other, way, word, source)]
            for way in ways:
                standing = following * len(other[2]) + way.standing
                cases.append((_all_of(way.conditions), moves + way.held, way.said, standing))
        facts = facts.assuming(condition, False)
        if facts is None:
            break
    return tuple(cases)


def _read_on(other, way, tag, source):
    """The ways that go on with the entry of this tag and source, which is not read if the source is empty."""
    empty = ("empty", source)
    known = way.facts.truth(empty)
    if known is not None:
        return [way] if known else _ways_on(other, way, tag, source)
    found = []
    fills = way.facts.assuming(empty, False)
    if fills is not None:
        conditions = (*way.conditions, ("not", empty))
        found = _ways_on(other, Way(fills, conditions, way.standing, way.held, way.said), tag, source)
    lacks = way.facts.assuming(empty, True)
    if lacks is not None:
        found.append(Way(lacks, way.conditions, way.standing, way.held, way.said))
    return found


def _ways_on(other, way, tag, source):
    """The ways on for the entry of this tag and source, which is not empty: case by case, and without one."""
    facts = way.facts
    found = []
    for condition, moves, says, following in other[2][way.standing][tag]:
        told = _placed(condition, source, way.held)
        here = facts.assuming(told, True)
        if here is not None:
            said = way.said + _said(says, source, way.held)
            held = _sources(moves, source, way.held)
            found.append(Way(here, (*way.conditions, told), following, held, said))
        facts = facts.assuming(told, False)
        if facts is None:
            return found
    return [*found, Way(facts, way.conditions, way.standing, way.held, way.said)]


def _source(source, new, held):
    """Where the value at a source of the second machine is, if it reads what is at new."""
    if source == NEW:
        return new
    if source == NOTHING:
        return NOTHING
    return held[source]


def _sources(sources, new, held):
    return tuple([_source(source, new, held) for source in sources])


def _said(says, new, held):
    return tuple([(tag, _source(source, new, held)) for tag, source in says])


def _placed(condition, new, held):
    """A condition of the second machine, with the places where its values are."""
    word = condition[0]
    if word == "not":
        return ("not", _placed(condition[1], new, held))
    if word in ("all", "any"):
        return (word, tuple([_placed(part, new, held) for part in condition[1]]))
    places = _sources(condition[1:], new, held)
    if NOTHING in places:
        # The register is empty by now, which no place tells.
        return TRUE if word == "empty" else FALSE
    return (word, *places)


def _all_of(conditions):
    """The condition that all these hold, without needless parts and depth."""
    parts = []
    for condition in conditions:
        for part in condition[1] if condition[0] == "all" else (condition,):
            if part == FALSE:
                return FALSE
            if part != TRUE and part not in parts:
                parts.append(part)
    if len(parts) == 1:
        return parts[0]
    return ("all", tuple(parts)) if parts else TRUE
