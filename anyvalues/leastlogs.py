"""The least log at whose last entry a row of machines makes a wanted step.

All shortest ways there are found, layer by layer, from the beginning; then, from the goal back,
which gaps between held values each way asks for; then the log is built entry by entry, each one
the least that leaves room for the rest.
"""

from anyvalues.gaps import BASE, NO_GAPS, gaps_before, least_value, values_behind, with_gaps
from anyvalues.rows import different, row_beginning, row_steps

# Stands in the place of a joint type behind a wanted step.
GOAL = ()


def least_log(row, lets, wanted):
    """The least log whose steps are all let by and whose last one is wanted, or None."""
    into = _shortest_steps(row, lets, wanted)
    if GOAL not in into:
        return None
    ways, needs = _ways_to_goal(into)
    return _least_way(ways, needs, row_beginning(row))


def _shortest_steps(row, lets, wanted):
    """For GOAL, if it is reached, and each joint type before it: the steps there from the layer before."""
    layer = [row_beginning(row)]
    known = {layer[0]: True}
    into = {}
    while layer and GOAL not in into:
        later = {}
        for joint in layer:
            for step in row_steps(row, joint):
                if lets(step):
                    target = GOAL if wanted(step) else step.after
                    if target not in known:
                        later[target] = True
                        into.setdefault(target, []).append(step)
        for joint in later:
            known[joint] = True
        layer = list(later)
    return into


def _ways_to_goal(into):
    """For each joint type on a shortest way: the steps onward with their targets, and the gaps needed.

    The gaps needed are a list, of which one is enough.
    """
    ways = {}
    needs = {GOAL: [NO_GAPS]}
    queue = [GOAL]
    asked = {}
    at = 0
    while at < len(queue):
        target = queue[at]
        at += 1
        behind = needs[target]
        for step in into.get(target, []):
            joint = step.before
            if joint not in ways:
                ways[joint] = []
                queue.append(joint)
            ways[joint].append((step, target))
            found = needs.get(joint, [])
            for gaps in behind:
                found = with_gaps(found, gaps_asked(asked, step, gaps))
            needs[joint] = found
    return ways, needs


def gaps_asked(asked, step, gaps):
    """The gaps that a step asks for; asked has those that are known already, as many steps ask for the same."""
    many = different(step.before[-1])
    key = (many, step.spot, step.kept, gaps)
    if key not in asked:
        asked[key] = gaps_before(many, step.spot, step.kept, gaps)
    return asked[key]


def _least_way(ways, needs, first):
    """The least log from the first joint type to GOAL."""
    log = []
    joint = first
    values = (BASE,)
    while joint != GOAL:
        entry, step, joint = least_onward(ways[joint], needs, values)
        log.append(entry)
        values = values_behind(values, step.spot, entry[1], step.kept)
    return tuple(log)


def least_onward(ways, needs, values):
    """The least entry from which the goal can be reached, its step and the step's target."""
    best = None
    for step, target in ways:
        for gaps in needs[target]:
            value = least_value(values, step.spot, step.kept, gaps)
            if value is not None and (best is None or (step.tag, value) < best[0]):
                best = ((step.tag, value), step, target)
    return best
