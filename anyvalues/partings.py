"""From which held values two machines can be parted, where the room between whole numbers counts.

For each joint type gaps are found with which it can be parted, together with the number of entries
that it takes: from the goal back, one entry more each time. Gaps that ask more than others, found
with as few entries, are left out; so it comes to an end.
"""

from anyvalues.gaps import NO_GAPS, gaps_there, values_behind, weaker, with_gaps
from anyvalues.leastlogs import GOAL, gaps_asked, least_onward
from anyvalues.rows import answers_part, row_steps

# So many joint types are looked at before it is asked for the first time whether anything parts the machines.
FEW = 100


class Partings:
    """What parts two machines from a joint type and held values on, ascending with BASE in front.

    length is the number of entries of the shortest parting log, None if there is none. Only in this
    case all joint types are looked through that the first one leads to.
    """

    def __init__(self, row, joint, values):
        self._row = row
        self._joint = joint
        self._values = values
        self._layer = [joint]
        self._seen = {GOAL: True, joint: True}
        self._steps = {}
        self._into = {}
        self._asked = {}
        self._found = {}
        self.length = None
        self._search()

    def steps(self, joint):
        """The steps of a joint type, tag by tag and spot by spot."""
        return list(self._steps[joint])

    def gaps(self, joint):
        """The gaps with which a joint type can be parted, a list, of which one is enough."""
        return self._gaps_within(joint, self.length)

    def least_log(self):
        """The least parting log, if there is one."""
        log = []
        joint = self._joint
        values = self._values
        for left in reversed(range(self.length)):
            ways = [(step, _target(step)) for step in self._steps[joint]]
            needs = {target: self._gaps_within(target, left) for step, target in ways}
            entry, step, joint = least_onward(ways, needs, values)
            log.append(entry)
            values = values_behind(values, step.spot, entry[1], step.kept)
        return tuple(log)

    def _gaps_within(self, joint, longest):
        """The gaps with which so many entries are enough, any number if it is None."""
        return [gaps for length, gaps in self._found.get(joint, []) if longest is None or length <= longest]

    def _search(self):
        """Looks at twice as many joint types each time, as most machines are parted soon, if at all."""
        depth = 0
        many = FEW
        while self._layer and self.length is None:
            while self._layer and len(self._seen) < many:
                self._widen()
                depth += 1
            many = 2 * many
            # Once there are no farther joint types, all gaps are found, however many entries they take.
            self._find_gaps(depth if self._layer else None)

    def _widen(self):
        """Goes one step on from the joint types that were found last."""
        later = []
        for joint in self._layer:
            self._steps[joint] = row_steps(self._row, joint)
            for step in self._steps[joint]:
                target = _target(step)
                self._into.setdefault(target, []).append(step)
                if target not in self._seen:
                    self._seen[target] = True
                    later.append(target)
        self._layer = later

    def _find_gaps(self, longest):
        """Finds the gaps with which at most so many entries are enough, until they are there."""
        self._found = {GOAL: [(0, NO_GAPS)]}
        fresh = {GOAL: [NO_GAPS]}
        length = 0
        while fresh and length != longest:
            length += 1
            fresh = self._one_entry_more(fresh)
            for joint, gaps in fresh.items():
                self._found.setdefault(joint, []).extend([(length, asked) for asked in gaps])
            if any([gaps_there(self._values, gaps) for gaps in fresh.get(self._joint, [])]):
                self.length = length
                return

    def _one_entry_more(self, fresh):
        """The gaps that lead with one entry to those that were found last, without what asks too much."""
        later = {}
        tried = {}
        for target, behind in fresh.items():
            for step in self._into.get(target, []):
                joint = step.before
                for gaps in behind:
                    asked = gaps_asked(self._asked, step, gaps)
                    if (joint, asked) not in tried:
                        tried[(joint, asked)] = True
                        if not self._is_known(joint, asked):
                            later[joint] = with_gaps(later.get(joint, []), asked)
        return later

    def _is_known(self, joint, asked):
        """True if gaps that ask at most as much are found already."""
        for length, gaps in self._found.get(joint, []):
            if weaker(gaps, asked):
                return True
        return False


def _target(step):
    """Where a step leads: to the goal if it parts the machines."""
    return GOAL if answers_part(step) else step.after
