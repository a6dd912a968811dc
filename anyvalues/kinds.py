"""Kinds: which held values are needed, and which types lead to the same answers.

Both are found for ever longer logs at once. Types are told apart by all logs of at most so many
entries, and so are the values that such a log can tell from others; one entry more looks through
one step at what is known of the types behind it. It ends when one entry more tells nothing new.
"""

from anyvalues.machines import NEW
from anyvalues.orders import held_values
from anyvalues.rows import different, row_beginning, row_steps
from anyvalues.types import type_of


class Look:
    """What a step shows: the answer, the number of the node behind it and where each value there is from.

    A value is told as the rank that it had before, NEW for the value that is read.
    """

    def __init__(self, said, behind, sources):
        self.said = said
        self.behind = behind
        self.sources = sources


class Kinds:
    """The types that given types of given machines lead to, with their needed ranks and their kinds.

    A node is a pair of the number of a machine and a type of it. What fewer entries tell than are
    needed to tell all is kept if keeping is True.
    """

    def __init__(self, machines, starts, keeping):
        self._machines = machines
        self._nodes = list(starts)
        self._number = {node: number for number, node in enumerate(self._nodes)}
        self._looks = []
        self._explore()
        # The needed ranks and the kinds of all nodes as far as no entry tells them, then one entry, and so on.
        self._levels = [([()] * len(self._nodes), [0] * len(self._nodes))]
        level = self._one_entry_more()
        while level != self._levels[-1]:
            self._levels = [*self._levels, level] if keeping else [level]
            level = self._one_entry_more()

    def needed(self, node):
        """The needed ranks of the type, ascending."""
        return self._levels[-1][0][self._number[node]]

    def kind(self, node):
        """The number of the kind of the type: the same one exactly for types of one kind."""
        return self._levels[-1][1][self._number[node]]

    def entries(self):
        """The number of entries that are enough to part all that can be parted; told if all is kept."""
        return len(self._levels) - 1

    def apart(self, one, other, entries):
        """True if at most so many entries part two contents of the first machine, with room enough between values."""
        return self._told_of(one, entries) != self._told_of(other, entries)

    def _told_of(self, content, entries):
        """The kind and the needed values of a content, as far as so many entries tell them."""
        needs, kinds = self._levels[entries]
        number = self._number[(0, type_of(content))]
        values = held_values(content[1])
        return (kinds[number], [values[rank] for rank in needs[number]])

    def _explore(self):
        at = 0
        while at < len(self._nodes):
            machine, kind = self._nodes[at]
            at += 1
            steps = row_steps((self._machines[machine],), kind)
            spots = 2 * different(kind[1]) + 1
            looks = [self._look(machine, step) for step in steps]
            self._looks.append([looks[start:start + spots] for start in range(0, len(looks), spots)])

    def _look(self, machine, step):
        node = (machine, step.after)
        if node not in self._number:
            self._number[node] = len(self._nodes)
            self._nodes.append(node)
        said = tuple([(tag, _source(step, spot)) for tag, spot in step.said[0]])
        return Look(said, self._number[node], tuple([_source(step, spot) for spot in step.kept]))

    def _one_entry_more(self):
        """The needed ranks and the kinds of all nodes, as one entry more tells them."""
        seen = [[[self._seen(look) for look in looks] for looks in tags] for tags in self._looks]
        needs = [_needed(tags) for tags in seen]
        number = {}
        kinds = [number.setdefault(_shown(tags, ranks), len(number)) for tags, ranks in zip(seen, needs)]
        return (needs, kinds)

    def _seen(self, look):
        """The answer, the kind behind the step and where its needed values are from."""
        needs, kinds = self._levels[-1]
        return (look.said, kinds[look.behind], tuple([look.sources[rank] for rank in needs[look.behind]]))


def _source(step, spot):
    """The rank of the value of a spot, NEW if it is the value that is read, None for None."""
    if spot is None:
        return None
    return NEW if spot == step.spot else spot // 2


def _needed(tags):
    """The needed ranks of a type, from what is seen by each tag at each spot."""
    told = {}
    for looks in tags:
        for said, kind, sources in looks:
            for tag, source in said:
                told[source] = True
            for source in sources:
                told[source] = True
    many = len(tags[0]) // 2
    return tuple([rank for rank in range(many) if rank in told or _compared(tags, rank)])


def _compared(tags, rank):
    """True if it shows whether a value is the value of this rank, or just below or above it."""
    return any([looks[2 * rank:2 * rank + 3] != looks[2 * rank:2 * rank + 1] * 3 for looks in tags])


def _shown(tags, ranks):
    """What is seen at each spot among the needed ranks, with their numbers in the place of ranks."""
    number = {rank: at for at, rank in enumerate(ranks)}
    number[NEW] = NEW
    number[None] = None
    spots = [lowest_spot(ranks, spot) for spot in range(2 * len(ranks) + 1)]
    shown = []
    for looks in tags:
        for said, kind, sources in [looks[spot] for spot in spots]:
            answer = tuple([(tag, number[source]) for tag, source in said])
            shown.append((answer, kind, tuple([number[source] for source in sources])))
    return (len(ranks), tuple(shown))


def lowest_spot(ranks, spot):
    """The lowest spot of a type that is at this spot among its needed ranks."""
    if spot == 0:
        return 0
    if spot % 2 == 1:
        return 2 * ranks[spot // 2] + 1
    return 2 * ranks[spot // 2 - 1] + 2


def kinds_from(machines, starts):
    """The kinds of the types that the starts, pairs of the number of a machine and a type, lead to."""
    return Kinds(machines, list({start: True for start in starts}), False)


def kinds_that_come_about(machine):
    """The kinds of the types that can come about."""
    return kinds_from((machine,), ((0, row_beginning((machine,))),))


def kinds_kept(machine):
    """The kinds of the types that can come about, and what fewer entries tell of them."""
    return Kinds((machine,), ((0, row_beginning((machine,))),), True)
