"""Slow ways to needed values, kinds, least machines and rooms, from the document's words, and machines to ask about."""

import functools
import itertools
import random

from anyvalues.machines import read
from helpers import TRUE, joint_step, worth_of_spot

# Stands for a room that is as large as one likes, where values must be whole numbers.
WIDE = 10 ** 6


def rich_machine(seed, standings=2, registers=2, tags=1, cases=3, talk=0.4):
    """A machine that first fills its registers, so that many types come about; the same one for the same seed."""
    dice = random.Random(seed)

    def condition(depth=2):
        kind = dice.random()
        if kind < 0.6 or depth == 0:
            pair = dice.sample(range(-1, registers), 2) if registers else (-1, -1)
            return (dice.choice(("less", "less", "less", "same")), *pair)
        if kind < 0.75:
            return ("not", condition(depth - 1))
        if kind < 0.9:
            return (dice.choice(("all", "any")), (condition(depth - 1), condition(depth - 1)))
        return ("empty", dice.randrange(-1, registers)) if kind < 0.94 else TRUE

    def case(last):
        others = [-1, -1, *range(registers)] + [-2] * (dice.random() < 0.15)
        moves = tuple(at if dice.random() < 0.55 else dice.choice(others) for at in range(registers))
        many = dice.choice((1, 1, 2)) if dice.random() < talk else 0
        says = tuple((dice.randrange(2), dice.choice((-1, *range(registers)))) for _ in range(many))
        told = TRUE if last and dice.random() < 0.7 else condition()
        return (told, moves, says, registers + dice.randrange(standings))

    steps = []
    for at in range(registers):
        moves = tuple(-1 if number == at or number > at and dice.random() < 0.2 else number
                      for number in range(registers))
        steps.append(((TRUE, moves, (), at + 1),))
    steps = [(cases,) * tags for cases in steps]
    for _ in range(standings):
        tagged = []
        for _ in range(tags):
            many = dice.randrange(1, cases + 1)
            tagged.append(tuple(case(at == many - 1) for at in range(many)))
        steps.append(tuple(tagged))
    return (tags, registers, tuple(steps))


def ranks(values):
    """The ranks of values."""
    lower = {value: rank for rank, value in enumerate(sorted(set(values) - {None}))}
    return tuple(lower.get(value) for value in values)


def some_type(dice, machine, most=3):
    """A type of the machine that may come about or not."""
    values = [dice.choice([None, *range(most), *range(most)]) for _ in range(machine[1])]
    return (dice.randrange(len(machine[2])), ranks(values))


def apart(machines, standings, values):
    """True if two machines give different answers to some log, read on from these values with room enough."""
    first = (*standings, ranks(values))
    order, known = [first], {first}
    for joint in order:
        many = len(set(joint[-1]) - {None})
        for tag in range(machines[0][0]):
            for spot in range(2 * many + 1):
                after, said = joint_step(machines, joint, tag, spot)
                if said[0] != said[1]:
                    return True
                if after not in known:
                    known.add(after)
                    order.append(after)
    return False


@functools.lru_cache(maxsize=20000)
def slow_needed(machine, kind):
    """The needed ranks: each one is changed, and it is asked whether that shows."""
    standing, told = kind
    found = []
    for rank in sorted(set(told) - {None}):
        values = [None if other is None else 10 * other for other in told]
        changed = [None if other is None else 10 * other + 5 * (other == rank) for other in told]
        if apart((machine, machine), (standing, standing), values + changed):
            found.append(rank)
    return tuple(found)


def _content_around(kind, needs, shift):
    """Held values of the type: 1000, 2000 .. for the needed ranks, others in between."""
    values = []
    for rank in kind[1]:
        if rank is None:
            values.append(None)
        elif rank in needs:
            values.append(1000 * (needs.index(rank) + 1))
        else:
            values.append(1000 * sum(need < rank for need in needs) + 10 * rank + shift)
    return values


@functools.lru_cache(maxsize=20000)
def slow_one_kind(one, kind, other, another):
    """Whether two types are of one kind, by contents that have the same needed values."""
    needs, needs_too = slow_needed(one, kind), slow_needed(other, another)
    if len(needs) != len(needs_too):
        return False
    values = _content_around(kind, needs, 1) + _content_around(another, needs_too, 6)
    return not apart((one, other), (kind[0], another[0]), values)


def spot_among(needs, spot):
    """The lowest spot of a type that is at this spot among its needed values."""
    many = 2 * max(needs, default=0) + 3
    for at in range(many):
        value = worth_of_spot(at)
        held = [worth_of_spot(2 * rank + 1) for rank in needs]
        if 2 * sum(need < value for need in held) + (value in held) == spot:
            return at
    raise AssertionError("there is no such spot")


def slow_kinds(machine):
    """The first found types of the kinds, each with its steps: type by tag and spot among the needed values."""
    found = [(0, (None,) * machine[1])]
    for kind in found:
        many = 2 * len(slow_needed(machine, kind)) + 1
        for tag, spot in itertools.product(range(machine[0]), range(many)):
            after = slow_step(machine, kind, tag, spot)[0]
            if not any(slow_one_kind(machine, after, machine, known) for known in found):
                found.append(after)
    return tuple(found)


def slow_step(machine, kind, tag, spot):
    """The type after a value at this spot among the needed ones; what is held and said, by register or -1 or -2.

    Both are told for the least machine: registers are numbers of needed ranks.
    """
    standing, told = kind
    needs = slow_needed(machine, kind)
    value = worth_of_spot(spot_among(needs, spot))
    held = tuple(None if rank is None else worth_of_spot(2 * rank + 1) for rank in told)
    content, answer = read(machine, (standing, held), (tag, value))
    after = (content[0], ranks(content[1]))
    values = sorted(set(content[1]) - {None})
    source = {worth_of_spot(2 * rank + 1): at for at, rank in enumerate(needs)}
    source[value] = -1
    source[None] = -2
    kept = [source[values[rank]] for rank in slow_needed(machine, after)]
    return after, kept, tuple((word, source[worth]) for word, worth in answer)


def slow_least(machine):
    """The least machine, case by case as point [24] tells."""
    kinds = slow_kinds(machine)
    registers = max(len(slow_needed(machine, kind)) for kind in kinds)
    steps = []
    for kind in kinds:
        many = len(slow_needed(machine, kind))
        standing = []
        for tag in range(machine[0]):
            cases = []
            for spot in range(2 * many + 1):
                after, kept, says = slow_step(machine, kind, tag, spot)
                following = [slow_one_kind(machine, after, machine, known) for known in kinds].index(True)
                moves = tuple(kept) + (-2,) * (registers - len(kept))
                cases.append((_least_condition(spot, many), moves, says, following))
            standing.append(tuple(cases))
        steps.append(tuple(standing))
    return (machine[0], registers, tuple(steps))


def _least_condition(spot, many):
    if spot % 2 == 1:
        return ("same", -1, (spot - 1) // 2)
    if many == 0:
        return ("true",)
    if spot == 0:
        return ("less", -1, 0)
    if spot == 2 * many:
        return ("less", many - 1, -1)
    rank = spot // 2
    return ("all", (("less", rank - 1, -1), ("less", -1, rank)))


def slow_parting_from(one, content, other, another, longest):
    """The least parting log of at most this length, by trying values from 0."""
    held = [value for value in content[1] + another[1] if value is not None]
    entries = list(itertools.product(range(one[0]), range(max(held, default=0) + longest + 1)))
    known = {}

    def least(first, second, left):
        key = (first, second, left)
        if key not in known:
            known[key] = None
            for entry in entries:
                mine, said = read(one, first, entry)
                its, said_too = read(other, second, entry)
                if (said != said_too) != (left == 1):
                    continue
                rest = () if left == 1 else least(mine, its, left - 1)
                if rest is not None:
                    known[key] = (entry,) + rest
                    break
        return known[key]

    for length in range(1, longest + 1):
        log = least(content, another, length)
        if log is not None:
            return log
    return None


def at_least(roomy, other):
    """True if the roomy type is at least the other one."""
    return roomy[:3] == other[:3] and all(
        room is None or (needs is not None and room >= needs) for room, needs in zip(roomy[3], other[3])
    )


def roomy_type(content, another):
    """The roomy type of two contents; a room of very many values stands for None."""
    held = content[1] + another[1]
    values = sorted(set(held) - {None})
    rooms = tuple(high - low - 1 for low, high in zip([-1] + values, values))
    return (content[0], another[0], ranks(held), tuple(None if room > WIDE // 10 else room for room in rooms))


def _contents_with(one, roomy):
    """Two contents with these rooms, and values of all spots for which there is room, all those of narrow rooms."""
    values, tried, below = [], [], -1
    for room in roomy[3]:
        value = below + 1 + (WIDE if room is None else room)
        tried.extend([below + WIDE // 2] if room is None else range(below + 1, value))
        tried.append(value)
        values.append(value)
        below = value
    tried.append(below + WIDE)
    held = tuple(None if rank is None else values[rank] for rank in roomy[2])
    return (roomy[0], held[:one[1]]), (roomy[1], held[one[1]:]), tried


def slow_judge_rooms(one, content, other, another, lot):
    """Whether a roomy lot is right, with values for the rooms."""
    if not any(at_least(roomy, roomy_type(content, another)) for roomy in lot):
        return False
    for roomy in lot:
        first, second, values = _contents_with(one, roomy)
        for entry in itertools.product(range(one[0]), values):
            mine, said = read(one, first, entry)
            its, said_too = read(other, second, entry)
            if said != said_too:
                return False
            if not any(at_least(wide, roomy_type(mine, its)) for wide in lot):
                return False
    return True


def room_chain(seed, registers, standings):
    """A machine that says something only after values that ask for room; the same one for the same seed."""
    dice = random.Random(seed)
    steps = []
    for standing in range(standings):
        cases = []
        for _ in range(dice.randrange(1, 4)):
            low, high = dice.randrange(registers), dice.randrange(registers)
            between = ("all", (("less", low, -1), ("less", -1, high)))
            condition = dice.choice((("less", -1, low), ("less", low, -1), between, between))
            moves = list(range(registers))
            if dice.random() < 0.8:
                moves[dice.randrange(registers)] = -1
            if dice.random() < 0.3:
                moves[dice.randrange(registers)] = dice.randrange(registers)
            following = min(standing + (dice.random() < 0.7), standings - 1)
            if dice.random() < 0.15:
                following = dice.randrange(standings)
            cases.append((condition, tuple(moves), ((0, -1),) * (standing == standings - 1), following))
        steps.append((tuple(cases),))
    return (1, registers, tuple(steps))


def read_beside(one, content, other, another, entry):
    """The contents and the answer of two machines beside one another."""
    content, said = read(one, content, entry)
    another, also = read(other, another, entry)
    return content, another, said + also


def read_behind(one, content, other, another, entry):
    """The contents and the answer of the machine other behind the machine one."""
    content, said = read(one, content, entry)
    answer = ()
    for tag, value in said:
        if tag < other[0] and value is not None:
            another, also = read(other, another, (tag, value))
            answer += also
    return content, another, answer


def some_content(dice, machine, high=6):
    """A content that may come about or not, with values near each other."""
    values = [dice.choice([None, *range(high), *range(high)]) for _ in range(machine[1])]
    return (dice.randrange(len(machine[2])), tuple(values))


def talking_machine(seed, registers, says, cases=2, tags=1, said=1):
    """A machine with one standing that says so many entries at once; the same one for the same seed."""
    dice = random.Random(seed)

    def case():
        pair = dice.sample(range(-1, registers), 2)
        condition = dice.choice((("less", *pair), ("not", ("less", *pair)), ("same", *pair), ("empty", pair[0]), TRUE))
        moves = tuple(dice.choice((-1, at, at)) for at in range(registers))
        told = tuple((dice.randrange(said), dice.choice((-2, -1, *range(registers)))) for _ in range(says))
        return (condition, moves, told, 0)

    return (tags, registers, (tuple(tuple(case() for _ in range(cases)) for _ in range(tags)),))


def at_once(answers, numbers):
    """The answers put together: so many of them at each entry."""
    told, start = [], 0
    for number in numbers:
        told.append(tuple(itertools.chain.from_iterable(answers[start:start + number])))
        start += number
    return tuple(told)
