"""The machine that spots a pattern in the order of the last values."""

from anyvalues.machines import NEW

TRUE = ("true",)


def spotter(pattern):
    """Says each value at which the last values have the order of the pattern."""
    # The last values but the one that is read stand in the registers, the earliest one first.
    earlier = len(pattern) - 1
    moves = tuple((list(range(earlier)) + [NEW])[1:])
    spotted = (_in_order(pattern), moves, ((0, NEW),), 0)
    return (1, earlier, (((spotted, (TRUE, moves, (), 0)),),))


def _in_order(pattern):
    """The condition that the values have the order of the pattern; it does not hold while a register is empty."""
    places = sorted([(rank, at) for at, rank in enumerate(pattern)])
    parts = []
    for (low, before), (high, behind) in zip(places, places[1:]):
        word = "less" if low < high else "same"
        parts.append((word, _place(before, pattern), _place(behind, pattern)))
    return ("all", tuple(parts))


def _place(at, pattern):
    """Where the value is that stands at this place of the pattern."""
    return NEW if at == len(pattern) - 1 else at
