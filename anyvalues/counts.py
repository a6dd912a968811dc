"""How many orders of logs there are, and at how many of them a machine says a tag.

A log grows entry by entry. Of the different values so far only those that are held matter, and of
the other ones only how many there are in each gap: below the least held value, between two
neighbours, and above the greatest one.
"""

from anyvalues.roomy import rooms_left
from anyvalues.rows import row_beginning, row_steps


def orders(n):
    """The number of tight logs of n entries with one tag."""
    # At each place the number of those with so many different values.
    counts = [1]
    for _ in range(n):
        # The last value is one of the others, or a new one in one of the places beside them.
        counts = [many * (old + new) for many, (old, new) in enumerate(zip([*counts, 0], [0, *counts]))]
    return sum(counts)


def count_saying(machine, tag, n):
    """The number of tight logs of n entries at whose last one the machine says the tag."""
    row = (machine,)
    counts = {row_beginning(row): {(0,): 1}}
    steps = {}
    known = {}
    for _ in range(n - 1):
        counts = _one_entry_more(row, counts, steps, known)
    total = 0
    for kind, told in counts.items():
        for step in row_steps(row, kind):
            if tag in [word for word, spot in step.said[0]]:
                total += sum([many * _values_at(step.spot, gaps) for gaps, many in told.items()])
    return total


def _values_at(spot, gaps):
    """The number of values at the spot: old ones, and places for a new one."""
    return 1 if spot % 2 == 1 else 2 * gaps[spot // 2] + 1


def _one_entry_more(row, counts, steps, known):
    """The numbers of logs with one entry more, by the type behind them and the gaps there."""
    later = {}
    for kind, told in counts.items():
        if kind not in steps:
            steps[kind] = row_steps(row, kind)
        for step in steps[kind]:
            target = later.setdefault(step.after, {})
            for gaps, many in told.items():
                key = (step.spot, step.kept, gaps)
                if key not in known:
                    known[key] = _gaps_behind(step, gaps)
                for behind, ways in known[key]:
                    target[behind] = target.get(behind, 0) + many * ways
    return later


def _gaps_behind(step, gaps):
    """The gaps that can be there after the step, each with the number of values that lead to it."""
    # As if a value above all others was held, so that the last gap is one like the others.
    kept = (*step.kept, 2 * len(gaps) - 1)
    if step.spot % 2 == 1:
        return [(behind, 1) for behind in rooms_left(step.spot, kept, gaps)]
    at = step.spot // 2
    found = []
    for places in (gaps[at], gaps[at] + 1):
        # First the value is one of those in the gap, then a new one beside them.
        ways = 1 if step.spot in step.kept else places
        room = (*gaps[:at], places, *gaps[at + 1:])
        found.extend([(behind, ways) for behind in rooms_left(step.spot, kept, room)])
    return found
