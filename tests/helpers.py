"""What several tests need: machines, and slow ways to answer the same questions from the document's words."""

import itertools
import random

from anyvalues.machines import beginning, read

TRUE = ("true",)
FALSE = ("false",)

# The machine of the interface's example.
LESS = ("less", 0, -1)
EXAMPLE = (1, 1, ((((("empty", 0), (-1,), ((0, -1),), 0), (LESS, (-1,), ((0, -1), (1, 0)), 0)),),))


def one_case(condition, moves=(), says=(), tags=1):
    """A machine with one standing and this one case for each tag."""
    return (tags, len(moves), ((((condition, moves, says, 0),),) * tags,))


def silent(tags=1):
    """A machine that never says anything."""
    return (tags, 0, (((),) * tags,))


def random_condition(dice, registers, depth):
    """A random condition of at most this depth."""
    place = lambda: dice.randrange(-1, registers)
    kinds = ["less", "less", "same", "empty", "true"]
    if depth > 1:
        kinds += ["not", "all", "any", "false"]
    kind = dice.choice(kinds)
    if kind in ("less", "same"):
        return (kind, place(), place())
    if kind == "empty":
        return (kind, place())
    if kind == "not":
        return (kind, random_condition(dice, registers, depth - 1))
    if kind in ("all", "any"):
        return (kind, tuple(random_condition(dice, registers, depth - 1) for _ in range(dice.randrange(3))))
    return (kind,)


def random_case(dice, standings, registers, tags):
    """A random case."""
    condition = random_condition(dice, registers, 3)
    moves = tuple(
        at if dice.random() < 0.4 else dice.randrange(-2, registers) for at in range(registers)
    )
    says = tuple(
        (dice.randrange(tags), dice.randrange(-2, registers)) for _ in range(dice.choice((0, 0, 0, 1, 1, 2)))
    )
    return (condition, moves, says, dice.randrange(standings))


def random_machine(seed, standings=2, registers=2, tags=2, cases=3, said=2):
    """A machine that is the same one for the same seed."""
    dice = random.Random(seed)
    return (tags, registers, tuple(
        tuple(
            tuple(random_case(dice, standings, registers, said) for _ in range(dice.randrange(cases + 1)))
            for _ in range(tags)
        )
        for _ in range(standings)
    ))


def logs_of(tags, length):
    """All logs of this length with values below it, in ascending order as tuples."""
    entries = [(tag, value) for tag in range(tags) for value in range(max(length, 1))]
    return itertools.product(entries, repeat=length)


def least_by_search(tags, longest, wanted):
    """The first one of all logs that is wanted, None if none of at most this length is."""
    for length in range(longest + 1):
        for log in logs_of(tags, length):
            if wanted(log):
                return log
    return None


def content_after(machine, log):
    """The content after the log."""
    content = beginning(machine)
    for entry in log:
        content, _ = read(machine, content, entry)
    return content


def random_log(dice, tags, length, low, high):
    """A random log with values from low to high."""
    return tuple((dice.randrange(tags), dice.randint(low, high)) for _ in range(length))
