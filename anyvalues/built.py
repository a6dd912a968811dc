"""Machines that are made here; each one has one standing and reads one tag, 0."""

from anyvalues.machines import NEW

TRUE = ("true",)
FIRST_ENTRY = ("empty", 0)


def records():
    """Says each value that is greater than all before it."""
    greater = ("any", (FIRST_ENTRY, ("less", 0, NEW)))
    return _reader(1, ((greater, (NEW,), ((0, NEW),), 0),))


def top_list(k):
    """Says after each entry the at most k greatest values so far, the greatest first."""
    cases = []
    for held in range(k):
        # While places are left, the first empty one tells how many values are held.
        cases.extend([_put_at(k, held, at, ("empty", held)) for at in range(held + 1)])
    cases.extend([_put_at(k, k, at, TRUE) for at in range(k + 1)])
    return _reader(k, tuple(cases))


def _put_at(k, held, at, condition):
    """The case of a top list for a new value behind so many greater ones, with so many values held."""
    if at < held:
        condition = ("all", (condition, ("less", at, NEW)))
    sources = (list(range(at)) + [NEW] + list(range(at, held)))[:k]
    moves = sources + list(range(len(sources), k))
    return (condition, tuple(moves), tuple(enumerate(sources)), 0)


def band():
    """Says the least and the greatest value so far whenever one of the two becomes another one."""
    return _reader(2, (
        (FIRST_ENTRY, (NEW, NEW), ((0, NEW), (1, NEW)), 0),
        (("less", NEW, 0), (NEW, 1), ((0, NEW), (1, 1)), 0),
        (("less", 1, NEW), (0, NEW), ((0, 0), (1, NEW)), 0),
    ))


def turning_points():
    """Says the value before if it is greater, or less, than both its neighbours."""
    peak = ("all", (("less", 0, 1), ("less", NEW, 1)))
    valley = ("all", (("less", 1, 0), ("less", 1, NEW)))
    return _reader(2, (
        (peak, (1, NEW), ((0, 1),), 0),
        (valley, (1, NEW), ((1, 1),), 0),
        (TRUE, (1, NEW), (), 0),
    ))


def runs():
    """Says the first value of each run, when it ends."""
    return _reader(2, (
        (FIRST_ENTRY, (NEW, NEW), (), 0),
        (("less", 1, NEW), (0, NEW), (), 0),
        (TRUE, (NEW, NEW), ((0, 0),), 0),
    ))


def _reader(registers, cases):
    """The machine with these cases in its only standing."""
    return (1, registers, ((cases,),))
