"""Points [24] and [25]: least machines."""

import random
import unittest

from anyvalues.alike import parting
from anyvalues.least import least_machine
from anyvalues.machines import answers, check_machine
from anyvalues.needs import kinds_of, needed
from anyvalues.orders import turned
from helpers import EXAMPLE, FALSE, TRUE, content_after, filled, one_case, random_log, random_machine, silent
from oracles import ranks, rich_machine, slow_least

BELOW = ("less", -1, 0)
ABOVE = ("less", 0, -1)
SAME = ("same", -1, 0)


def with_order(machine, order):
    """The machine with its registers in another order: the register at goes to order[at]."""
    place = {-1: -1, -2: -2, **{at: other for at, other in enumerate(order)}}

    def told(condition):
        word, *parts = condition
        if word == "not":
            return (word, told(parts[0]))
        if word in ("all", "any"):
            return (word, tuple(told(part) for part in parts[0]))
        return (word, *(place[part] for part in parts))

    def moved(moves):
        found = dict(zip(order, moves))
        return tuple(place[found[at]] for at in range(len(order)))

    return each_case(machine, lambda case: (
        told(case[0]), moved(case[1]), tuple((tag, place[source]) for tag, source in case[2]), case[3],
    ))


def each_case(machine, change, registers=None):
    """The machine with a change made to each case."""
    tags, many, steps = machine
    return (tags, many if registers is None else registers, tuple(
        tuple(tuple(change(case) for case in cases) for cases in standing) for standing in steps
    ))


def with_a_register_more(machine, source):
    """The machine with one more register, which is filled and never used."""
    return each_case(machine, lambda case: (case[0], case[1] + (source,), *case[2:]), machine[1] + 1)


def with_standings_doubled(machine):
    """The machine that goes to and fro between two copies of each standing."""
    tags, registers, steps = machine
    many = len(steps)
    twice = []
    for shift in (many, 0):
        twice.extend(each_case(machine, lambda case: (*case[:3], case[3] + shift))[2])
    return (tags, registers, tuple(twice))


def with_standings_renumbered(machine):
    """The machine with its standings behind the first one in the opposite order."""
    tags, registers, steps = machine
    many = len(steps)
    changed = each_case(machine, lambda case: (*case[:3], (many - case[3]) % many))[2]
    return (tags, registers, (changed[0],) + changed[:0:-1])


def in_other_words(machine):
    """The machine with conditions that say the same in other words."""
    def told(condition):
        word = condition[0]
        if word == "less":
            return ("all", (condition, ("not", ("less", condition[2], condition[1])), ("any", (TRUE, FALSE))))
        if word == "same":
            return ("same", condition[2], condition[1])
        if word == "all":
            return ("not", ("any", tuple(("not", told(part)) for part in reversed(condition[1]))))
        return ("not", ("not", condition))

    return each_case(machine, lambda case: (told(case[0]), *case[1:]))


def with_idle_cases(machine):
    """The machine with cases that can never be carried out, a standing and a register for them."""
    tags, registers, steps = machine
    grown = []
    for standing in steps:
        grown.append(tuple(
            ((FALSE, (-1,) * registers, ((7, -1),), 0), *cases,
             (("less", -1, -1), (-2,) * registers, ((8, -1),), len(steps)))
            for cases in standing
        ))
    idle = (((TRUE, (-1,) * registers, ((9, -1),), 0),),) * tags
    return (tags, registers, (*grown, idle))


def all_tuples(value):
    """True if the value has nothing but tuples, strings and integers in it."""
    if isinstance(value, tuple):
        return all(all_tuples(part) for part in value)
    return type(value) in (int, str)


class LeastMachine(unittest.TestCase):

    def test_the_example(self):
        machine = (1, 2, ((((TRUE, (-1, -1), ((0, -1),), 0),),),))
        self.assertEqual(least_machine(machine), (1, 0, ((((("true",), (), ((0, -1),), 0),),),)))

    def test_case_by_case(self):
        self.assertEqual(least_machine(EXAMPLE), (1, 1, (
            (((TRUE, (-1,), ((0, -1),), 1),),),
            (((BELOW, (0,), (), 1), (SAME, (-1,), (), 1), (ABOVE, (-1,), ((0, -1), (1, 0)), 1)),),
        )))
        # Values in between, says of empty registers and of what is held, two tags, a register that empties.
        machine = (2, 3, (
            (((TRUE, (-1, -2, -2), ((0, 1),), 1),), ()),
            (((ABOVE, (-1, 0, 2), ((5, -2), (5, 2), (4, 0)), 2),), ((SAME, (0, -2, -2), ((1, 0),), 1),)),
            (((("all", (("less", 1, -1), ("less", -1, 0))), (0, 1, -1), ((3, 1), (3, -1), (3, 0)), 2),),
             ((TRUE, (-2, -2, -2), (), 0),)),
        ))
        at0, at1 = ("same", -1, 0), ("same", -1, 1)
        self.assertEqual(least_machine(machine), (2, 2, (
            (((TRUE, (-1, -2), ((0, -2),), 1),), ((TRUE, (-2, -2), (), 0),)),
            (((BELOW, (0, -2), (), 1), (at0, (-1, -2), (), 1), (ABOVE, (0, -1), ((5, -2), (5, -2), (4, 0)), 2)),
             ((BELOW, (0, -2), (), 1), (at0, (-1, -2), ((1, -1),), 1), (ABOVE, (0, -2), (), 1))),
            (((BELOW, (0, 1), (), 2), (at0, (-1, 1), (), 2),
              (("all", (("less", 0, -1), ("less", -1, 1))), (0, 1), ((3, 0), (3, -1), (3, 1)), 2),
              (at1, (0, -1), (), 2), (("less", 1, -1), (0, 1), (), 2)),
             ((BELOW, (-2, -2), (), 0), (at0, (-2, -2), (), 0),
              (("all", (("less", 0, -1), ("less", -1, 1))), (-2, -2), (), 0),
              (at1, (-2, -2), (), 0), (("less", 1, -1), (-2, -2), (), 0))),
        )))

    def test_machines_without_cases_and_without_registers(self):
        self.assertEqual(least_machine(silent()), (1, 0, ((((TRUE, (), (), 0),),),)))
        self.assertEqual(least_machine(silent(2)), (2, 0, ((((TRUE, (), (), 0),),) * 2,)))
        self.assertEqual(least_machine((1, 4, (((),),) * 5)), least_machine(silent()))
        flips = (1, 0, ((((TRUE, (), ((0, -1),), 1),),), (((TRUE, (), ((1, -2),), 0),),)))
        self.assertEqual(least_machine(flips), flips)

    def test_many_standings_in_turn(self):
        for many in (7, 38):
            steps = [(((TRUE, (), ((at % 2, -1),) * (at == many), (at + 1) % (many + 1)),),) for at in range(many + 1)]
            machine = (1, 0, tuple(steps))
            self.assertEqual(least_machine(machine), machine)
            silent_round = each_case(machine, lambda case: (case[0], case[1], (), case[3]))
            self.assertEqual(least_machine(silent_round), least_machine(silent()))
            waits = filled(1, [(TRUE, (0,))] * many + [(BELOW, (0,))])
            self.assertEqual(len(least_machine(waits)[2]), many + 2)

    def test_the_same_as_from_the_document(self):
        for seed in range(24):
            machine = rich_machine(seed, 1 + seed % 2, 1 + seed % 2, 1 + seed % 2, 3, 0.4)
            self.assertEqual(least_machine(machine), slow_least(machine), seed)
        for seed in range(30):
            machine = random_machine(seed, 3, 2, 2, 4)
            self.assertEqual(least_machine(machine), slow_least(machine), seed)

    def test_it_is_right_and_alike_and_least(self):
        dice = random.Random(1)
        for seed in range(80):
            machine = rich_machine(seed, 2, seed % 4, 1 + seed % 2, 3, 0.3)
            least = least_machine(machine)
            self.assertIsNone(check_machine(least))
            self.assertTrue(all_tuples(least))
            self.assertEqual(least[0], machine[0])
            self.assertLessEqual(least[1], machine[1])
            self.assertEqual(len(least[2]), len(kinds_of(machine)))
            self.assertIsNone(parting(machine, least))
            for _ in range(5):
                log = random_log(dice, machine[0], 30, -9, 9)
                self.assertEqual(answers(machine, log), answers(least, log))
            self.assertEqual(least_machine(least), least)

    def test_the_registers_hold_the_needed_values(self):
        dice = random.Random(2)
        for seed in range(40):
            machine = rich_machine(seed, 2, 3, 1, 3, 0.3)
            least = least_machine(machine)
            log = random_log(dice, 1, 12, -9, 9)
            for end in range(len(log) + 1):
                standing, held = content_after(machine, log[:end])
                values = sorted(set(held) - {None})
                needs = tuple(values[rank] for rank in needed(machine, (standing, ranks(held))))
                found = content_after(least, log[:end])[1]
                self.assertEqual(found, needs + (None,) * (least[1] - len(needs)))
                # Point 25: any machine that is alike holds at least these.
                self.assertLessEqual(set(found) - {None}, set(content_after(with_order(machine, (2, 0, 1)),
                                                                            log[:end])[1]))

    def test_two_ways_to_write_one_work(self):
        for seed in range(60):
            registers = 1 + seed % 3
            machine = rich_machine(seed, 2, registers, 1 + seed % 2, 3, 0.3)
            least = least_machine(machine)
            order = list(range(registers))
            random.Random(seed).shuffle(order)
            ways = [
                with_order(machine, order), with_a_register_more(machine, -1), with_a_register_more(machine, 0),
                with_standings_doubled(machine), with_standings_renumbered(machine), in_other_words(machine),
                with_idle_cases(machine),
            ]
            ways.append(with_order(with_a_register_more(with_idle_cases(in_other_words(machine)), -1),
                                   (*order, registers)))
            for at, way in enumerate(ways):
                self.assertIsNone(check_machine(way))
                self.assertEqual(least_machine(way), least, (seed, at))

    def test_equal_exactly_if_alike(self):
        alike = 0
        machines = [rich_machine(seed, 1, 1, 1, 2, 0.3) for seed in range(60)]
        leasts = [least_machine(machine) for machine in machines]
        for at in range(len(machines)):
            for before in range(at):
                same = leasts[at] == leasts[before]
                self.assertEqual(same, parting(machines[at], machines[before]) is None, (at, before))
                alike += same
        self.assertGreater(alike, 30)
        self.assertNotEqual(least_machine(EXAMPLE), least_machine(turned(EXAMPLE)))
        self.assertNotEqual(least_machine(one_case(TRUE, (), ((0, -1),))), least_machine(one_case(TRUE, (), ((1, -1),))))

    def test_it_hangs_on_the_machine_alone(self):
        machines = [rich_machine(seed, 2, 2, 2) for seed in range(15)]
        told = [least_machine(machine) for machine in machines]
        self.assertEqual([least_machine(machine) for machine in reversed(machines)], told[::-1])


if __name__ == "__main__":
    unittest.main()
