"""What several tests need: machines, and slow ways to answer the same questions from the document's words."""

import itertools
import random

from anyvalues.machines import beginning, read

TRUE = ("true",)
FALSE = ("false",)

# The machine of the interface's example.
LESS = ("less", 0, -1)
EXAMPLE = (1, 1, ((((("empty", 0), (-1,), ((0, -1),), 0), (LESS, (-1,), ((0, -1), (1, 0)), 0)),),))


def one_case(condition, moves=(), says=(), tags=1):
    """A machine with one standing and this one case for each tag."""
    return (tags, len(moves), ((((condition, moves, says, 0),),) * tags,))


def silent(tags=1):
    """A machine that never says anything."""
    return (tags, 0, (((),) * tags,))


def random_condition(dice, registers, depth):
    """A random condition of at most this depth."""
    place = lambda: dice.randrange(-1, registers)
    kinds = ["less", "less", "same", "empty", "true"]
    if depth > 1:
        kinds += ["not", "all", "any", "false"]
    kind = dice.choice(kinds)
    if kind in ("less", "same"):
        return (kind, place(), place())
    if kind == "empty":
        return (kind, place())
    if kind == "not":
        return (kind, random_condition(dice, registers, depth - 1))
    if kind in ("all", "any"):
        return (kind, tuple(random_condition(dice, registers, depth - 1) for _ in range(dice.randrange(3))))
    return (kind,)


def random_case(dice, standings, registers, tags):
    """A random case."""
    condition = random_condition(dice, registers, 3)
    moves = tuple(
        at if dice.random() < 0.4 else dice.randrange(-2, registers) for at in range(registers)
    )
    says = tuple(
        (dice.randrange(tags), dice.randrange(-2, registers)) for _ in range(dice.choice((0, 0, 0, 1, 1, 2)))
    )
    return (condition, moves, says, dice.randrange(standings))


def random_machine(seed, standings=2, registers=2, tags=2, cases=3, said=2):
    """A machine that is the same one for the same seed."""
    dice = random.Random(seed)
    return (tags, registers, tuple(
        tuple(
            tuple(random_case(dice, standings, registers, said) for _ in range(dice.randrange(cases + 1)))
            for _ in range(tags)
        )
        for _ in range(standings)
    ))


def logs_of(tags, length):
    """All logs of this length with values below it, in ascending order as tuples."""
    entries = [(tag, value) for tag in range(tags) for value in range(max(length, 1))]
    return itertools.product(entries, repeat=length)


def least_by_search(tags, longest, wanted):
    """The first one of all logs that is wanted, None if none of at most this length is."""
    for length in range(longest + 1):
        for log in logs_of(tags, length):
            if wanted(log):
                return log
    return None


def content_after(machine, log):
    """The content after the log."""
    content = beginning(machine)
    for entry in log:
        content, _ = read(machine, content, entry)
    return content


def random_log(dice, tags, length, low, high):
    """A random log with values from low to high."""
    return tuple((dice.randrange(tags), dice.randint(low, high)) for _ in range(length))


def tight_values(length):
    """The values of all tight logs of this length, ascending as tuples."""
    found = [()]
    for _ in range(length):
        longer = []
        for values in found:
            many = len(set(values))
            for rank in range(many):
                longer.append(values + (rank,))
            for rank in range(many + 1):
                longer.append(tuple(value + (value >= rank) for value in values) + (rank,))
        found = longer
    return sorted(found)


def tight_logs(tags, length):
    """All tight logs of this length with these tags, ascending as tuples."""
    found = []
    for values in tight_values(length):
        for told in itertools.product(range(tags), repeat=length):
            found.append(tuple(zip(told, values)))
    return sorted(found)


def worth_of_spot(spot):
    """A value at the spot, if the values of rank j are 2j + 1: with room between, as points 13 and 19 tell."""
    return 10 * spot


def joint_step(machines, joint, tag, spot):
    """The joint type after an entry and the answers in spots, from contents with room between the values."""
    ranks = joint[-1]
    held = [None if rank is None else worth_of_spot(2 * rank + 1) for rank in ranks]
    entry = (tag, worth_of_spot(spot))
    standings, behind, said = [], [], []
    for machine, standing in zip(machines, joint):
        mine, held = held[:machine[1]], held[machine[1]:]
        content, answer = read(machine, (standing, tuple(mine)), entry)
        standings.append(content[0])
        behind.extend(content[1])
        said.append(tuple((told, None if value is None else value // 10) for told, value in answer))
    lower = {value: rank for rank, value in enumerate(sorted(set(behind) - {None}))}
    return (*standings, tuple(lower.get(value) for value in behind)), said


def joints_by_search(machines, guarded=False):
    """All joint types that can come about, in the order of point 15, and whether the last two machines part."""
    first = (0,) * len(machines) + ((None,) * sum(machine[1] for machine in machines),)
    order, parted = [first], False
    for joint in order:
        many = len(set(joint[-1]) - {None})
        for tag in range(machines[0][0]):
            for spot in range(2 * many + 1):
                after, said = joint_step(machines, joint, tag, spot)
                if guarded and said[0]:
                    continue
                parted = parted or said[-2:][0] != said[-1]
                if after not in order:
                    order.append(after)
    return tuple(order), parted


# Machines that need several values, and so logs of some length.

def filled(registers, conditions, say=0):
    """A machine that fills its registers one after the other, then goes on by one condition after the other.

    Each condition stands with its moves; the last one says (say, the value that is read).
    """
    steps = []
    for at in range(registers):
        moves = tuple(-1 if number == at else number for number in range(registers))
        steps.append((((TRUE, moves, (), at + 1),),))
    for at, (condition, moves) in enumerate(conditions):
        last = at == len(conditions) - 1
        says = ((say, -1),) if last else ()
        steps.append((((condition, moves, says, len(steps) + (not last)),),))
    return (1, registers, tuple(steps))


def between(low, high):
    """The value that is read is greater than that at low and less than that at high."""
    return ("all", (("less", low, -1), ("less", -1, high)))


def random_chain(seed, most=3):
    """A machine that reaches its last standing only by logs with fitting values."""
    dice = random.Random(seed)
    registers = dice.randrange(1, most + 1)
    fills = dice.randrange(1, registers + 1)
    standings = fills + dice.randrange(2, 6)
    steps = []
    for at in range(standings):
        if at < fills:
            moves = tuple(-1 if number >= at else number for number in range(registers))
            steps.append((((TRUE, moves, (), at + 1),),))
            continue
        cases = []
        for _ in range(dice.randrange(1, 4)):
            condition = dice.choice((
                ("less", *dice.sample(range(-1, registers), 2)),
                ("all", (("less", dice.randrange(registers), -1), ("less", -1, dice.randrange(registers)))),
                ("all", (("less", -1, dice.randrange(registers)), ("less", -1, dice.randrange(registers)))),
            ))
            moves = tuple(
                number if dice.random() < 0.7 else dice.randrange(-1, registers) for number in range(registers)
            )
            says = ((0, dice.randrange(-1, registers)),) if at == standings - 1 else ()
            cases.append((condition, moves, says, min(at + (dice.random() < 0.8), standings - 1)))
        steps.append((tuple(cases),))
    return (1, registers, tuple(steps))


def least_by_contents(machines, longest, wanted, lets=lambda contents, entry: True):
    """The least log at whose last entry something is wanted, by trying all values from 0; None if none is so short.

    wanted and lets are asked with the contents of the machines before an entry, and the entry.
    """
    tags = machines[0][0]

    def onward(contents, entry):
        return tuple(read(machine, content, entry)[0] for machine, content in zip(machines, contents))

    def least_from(contents, left, values, known):
        """The least log of so many entries, as a tuple, or None."""
        key = (contents, left)
        if key not in known:
            known[key] = None
            for entry in itertools.product(range(tags), range(values)):
                if not lets(contents, entry):
                    continue
                if left == 1:
                    rest = () if wanted(contents, entry) else None
                else:
                    rest = least_from(onward(contents, entry), left - 1, values, known)
                if rest is not None:
                    known[key] = (entry,) + rest
                    break
        return known[key]

    first = tuple(beginning(machine) for machine in machines)
    for length in range(1, longest + 1):
        log = least_from(first, length, length, {})
        if log is not None:
            return log
    return None


def said_at(machines, contents, entry):
    """What each machine says at the entry."""
    return [read(machine, content, entry)[1] for machine, content in zip(machines, contents)]


def made_of_tuples(value):
    """True if the value is made of tuples, integers, strings and None alone."""
    if type(value) is tuple:
        return all(made_of_tuples(part) for part in value)
    return value is None or type(value) in (int, str)


def ranks_among(values):
    """The ranks of values among each other."""
    order = sorted(set(values))
    return tuple(order.index(value) for value in values)


def renamed(machine, standings, registers):
    """The machine with other numbers of its standings, 0 staying 0, and of its registers, and a register more.

    standings and registers tell for each number the new one.
    """
    tags, many, steps = machine
    place = lambda source: source if source < 0 else registers[source]

    def condition_of(condition):
        word = condition[0]
        if word == "not":
            return (word, condition_of(condition[1]))
        if word in ("all", "any"):
            return (word, tuple(condition_of(part) for part in condition[1]))
        return (word, *(place(source) for source in condition[1:]))

    def case_of(case):
        condition, moves, says, following = case
        placed = [-1] * (many + 1)
        for at, source in enumerate(moves):
            placed[registers[at]] = place(source)
        said = tuple((tag, place(source)) for tag, source in says)
        return (condition_of(condition), tuple(placed), said, standings[following])

    placed = [None] * len(steps)
    for at, standing in enumerate(steps):
        placed[standings[at]] = tuple(tuple(case_of(case) for case in cases) for cases in standing)
    return (tags, many + 1, tuple(placed))
