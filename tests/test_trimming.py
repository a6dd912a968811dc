"""Point [37]: trimmed machines."""

import random
import unittest

from anyvalues.alike import parting
from anyvalues.built import band, records, runs, top_list, turning_points
from anyvalues.comings import case_log, log_to
from anyvalues.joining import behind, beside
from anyvalues.least import least_machine
from anyvalues.machines import answers, check_machine
from anyvalues.orders import turned
from anyvalues.spotting import spotter
from anyvalues.trimming import trimmed
from anyvalues.types import types_of
from helpers import (
    EXAMPLE, FALSE, TRUE, made_of_tuples, one_case, random_chain, random_condition, random_log, random_machine, silent,
)
from oracles import rich_machine

ABOVE = ("less", 0, -1)
BELOW = ("less", -1, 0)
SAME = ("same", -1, 0)


def go(following, condition=TRUE, moves=(), says=()):
    """A case that goes on to a standing."""
    return (condition, moves, says, following)


def slow_trimmed(machine):
    """The trimmed machine, standing by standing and case by case as the document tells."""
    tags, registers, steps = machine
    come = sorted({kind[0] for kind in types_of(machine)})
    left = []
    for standing in come:
        left.append(tuple(
            tuple(
                (condition, moves, says, come.index(following))
                for number, (condition, moves, says, following) in enumerate(steps[standing][tag])
                if case_log(machine, standing, tag, number) is not None
            )
            for tag in range(tags)
        ))
    return (tags, registers, tuple(left))


def in_turn(many, dice, registers=1):
    """A machine that goes through so many standings in turn, with some others and some vain cases between."""
    steps = []
    for at in range(many):
        onward = go((at + 1) % many, TRUE, (-1,) * registers, ((at, -1),))
        vain = go(dice.randrange(many), FALSE, (0,) * registers, ((99, 0),))
        steps.append((dice.choice(((onward,), (vain, onward), (onward, vain))),))
    for _ in range(dice.randrange(1, 4)):
        # A standing that none leads to, put in somewhere behind the first one.
        at = dice.randrange(1, len(steps) + 1)
        steps = [(tuple((c, m, s, f + (f >= at)) for c, m, s, f in cases),) for cases, in steps]
        steps.insert(at, ((go(dice.randrange(len(steps) + 1), TRUE, (-1,) * registers),),))
    return (1, registers, tuple(steps))


class WhatIsLeftOut(unittest.TestCase):

    def check(self, machine, left):
        self.assertEqual(trimmed(machine), left)
        self.assertEqual(trimmed(left), left)
        self.assertEqual(slow_trimmed(machine), left)

    def test_a_standing_that_none_leads_to(self):
        self.check((1, 0, (((),), ((go(0),),))), (1, 0, (((),),)))
        self.check((1, 0, (((go(0),),), ((go(0),),))), (1, 0, (((go(0),),),)))

    def test_standings_in_the_middle_are_renumbered(self):
        machine = (1, 0, (((go(3),),), ((go(0),),), ((go(4),),), ((go(5),),), ((go(2),),), ((go(3),),)))
        self.check(machine, (1, 0, (((go(1),),), ((go(2),),), ((go(1),),))))

    def test_the_others_keep_their_order(self):
        # 0 leads to 4, 4 to 2, 2 to 0: they are found in another order than they stand in.
        machine = (1, 0, (((go(4),),), ((go(1),),), ((go(0),),), ((go(3),),), ((go(2),),)))
        self.check(machine, (1, 0, (((go(2),),), ((go(0),),), ((go(1),),))))

    def test_standings_that_lead_to_one_another_alone(self):
        machine = (1, 0, (((go(0),),), ((go(2),),), ((go(3),),), ((go(1),),)))
        self.check(machine, (1, 0, (((go(0),),),)))

    def test_a_standing_that_only_a_vain_case_leads_to(self):
        machine = (1, 0, (((go(1, FALSE), go(2)),), ((go(2),),), ((go(0),),)))
        self.check(machine, (1, 0, (((go(1),),), ((go(0),),))))
        # The register is never filled in standing 0, so the value that is read is never above it.
        machine = (1, 1, (((go(1, ABOVE, (0,)), go(2, TRUE, (0,))),), ((),), ((),)))
        self.check(machine, (1, 1, (((go(1, TRUE, (0,)),),), ((),))))

    def test_the_first_standing_stays(self):
        machine = (2, 0, (((go(1),), ()), ((go(1),), (go(1),)), ((), ())))
        self.check(machine, (2, 0, (((go(1),), ()), ((go(1),), (go(1),)))))

    def test_cases_in_front_and_behind(self):
        keep = (0,)
        first = go(0, ("empty", 0), (-1,), ((0, -1),))
        machine = (1, 1, (((
            go(0, FALSE, keep), go(0, ("less", 0, 0), keep), first, go(0, ("all", (ABOVE, BELOW)), keep),
            go(0, ABOVE, (-1,)), go(0, ("empty", -1), keep), go(0, ("not", ABOVE), keep, ((1, 0),)),
            go(0, TRUE, (-2,)), go(0, SAME, (-2,)),
        ),),))
        left = (first, go(0, ABOVE, (-1,)), go(0, ("not", ABOVE), keep, ((1, 0),)))
        self.check(machine, (1, 1, ((left,),)))

    def test_an_order_that_cannot_come_about_in_its_standing(self):
        # The two registers always hold a lesser and a greater value in standing 2.
        wrong = ("less", 1, 0)
        fill = go(1, TRUE, (-1, 1))
        onward = go(2, ABOVE, (0, -1))
        machine = (1, 2, (
            ((fill,),), ((onward,),), ((go(0, wrong, (-2, -2)), go(2, ("same", 0, 1), (0, 1)), go(2, TRUE, (0, 1))),),
        ))
        self.check(machine, (1, 2, (((fill,),), ((onward,),), ((go(2, TRUE, (0, 1)),),))))

    def test_a_case_is_vain_in_one_standing_and_for_one_tag_alone(self):
        keep = (0,)
        fill = go(1, TRUE, (-1,))
        below = go(1, BELOW, keep)
        machine = (2, 1, (((below, fill), (below,)), ((below, fill), (below,))))
        left = (2, 1, (((fill,), ()), ((below, fill), (below,))))
        self.check(machine, left)

    def test_conditions_moves_and_says_stay_as_they_were(self):
        odd = ("any", (("all", ()), ("not", ("any", ())), FALSE))
        case = (odd, (-2, 1, 0), ((7, -2), (7, 2), (0, -1)), 0)
        machine = (1, 3, (((case,),),))
        self.check(machine, machine)
        self.check((1, 3, (((case, case),),)), machine)

    def test_registers_stay(self):
        machine = (1, 5, (((go(0, FALSE, (0,) * 5),),), ((go(0, TRUE, (-1,) * 5),),)))
        self.check(machine, (1, 5, (((),),)))

    def test_without_cases_and_registers(self):
        for tags in (1, 2, 6):
            self.check(silent(tags), silent(tags))
            self.check((tags, 0, (((),) * tags,) * 9), silent(tags))
        self.check(one_case(TRUE), one_case(TRUE))
        self.check(one_case(FALSE, (), (), 3), silent(3))
        self.check(EXAMPLE, EXAMPLE)


class DrawnMachines(unittest.TestCase):

    def check(self, machine):
        left = trimmed(machine)
        self.assertEqual(left, slow_trimmed(machine))
        self.assertEqual(trimmed(left), left)
        self.assertTrue(made_of_tuples(left))
        self.assertIsNone(check_machine(left))
        self.assertIsNone(parting(machine, left))
        come = sorted({kind[0] for kind in types_of(machine)})
        self.assertEqual(types_of(left), tuple((come.index(standing), ranks) for standing, ranks in types_of(machine)))
        for standing, kind in enumerate(come):
            self.assertIsNotNone(log_to(machine, next(told for told in types_of(machine) if told[0] == kind)))
        dice = random.Random(repr(machine))
        for _ in range(3):
            log = random_log(dice, machine[0], 30, -4, 6)
            self.assertEqual(answers(left, log), answers(machine, log))
        return left != machine

    def test_small_machines(self):
        shorter = 0
        for seed in range(40):
            shorter += self.check(random_machine(seed, 3, 2, 2, 3))
            shorter += self.check(random_machine(seed, 6, 1, 1, 2))
            shorter += self.check(rich_machine(seed, 3, 2, 1))
            shorter += self.check(random_chain(seed))
        self.assertGreater(shorter, 80)

    def test_three_registers_and_several_tags(self):
        for seed in range(6):
            self.check(rich_machine(seed, 2, 3, 1))
            self.check(random_machine(seed, 3, 3, 3, 2))
            self.check(random_machine(seed, 2, 0, 6, 4))

    def test_many_standings_in_turn(self):
        dice = random.Random(4)
        for many in (10, 13, 18):
            for _ in range(3):
                machine = in_turn(many, dice)
                self.check(machine)
                self.assertEqual(len(trimmed(machine)[2]), many)

    def test_joined_turned_and_least_ones(self):
        for machine in (
            beside(records(), runs()), behind(top_list(2), runs()), behind(turning_points(), records()),
            beside(spotter((0, 1)), band()), turned(top_list(3)), turned(random_machine(7, 3, 2, 2, 3)),
            beside(random_machine(8, 2, 1, 1, 2), random_machine(9, 3, 1, 1, 3)),
            behind(random_machine(8, 2, 1, 2, 2), random_machine(9, 2, 1, 1, 3)),
            least_machine(random_machine(11, 2, 2, 2, 3)), least_machine(top_list(3)),
        ):
            self.check(machine)

    def test_each_case_of_a_least_machine_comes_about(self):
        for seed in range(10):
            least = least_machine(rich_machine(seed, 2, 2, 1))
            self.assertEqual(trimmed(least), least)

    def test_vain_cases_and_standings_that_are_put_in(self):
        dice = random.Random(6)
        for seed in range(15):
            machine = trimmed(rich_machine(seed, 2, 2, 1))
            tags, registers, steps = machine
            never = ("all", (FALSE, random_condition(dice, registers, 3)))
            vain = (never, (-1,) * registers, ((5, -1),), len(steps))
            spoiled = []
            for standing in steps:
                cases = list(standing[0])
                cases.insert(dice.randrange(len(cases) + 1), vain)
                spoiled.append((tuple(cases),))
            lone = ((TRUE, (-1,) * registers, (), 0),)
            self.assertEqual(trimmed((tags, registers, (*spoiled, (lone,), ((),)))), machine)

    def test_a_machine_that_holds_many_values(self):
        # Its cases are found soon, though there are thousands of types.
        machine = behind(spotter((0, 1, 2, 3, 4)), spotter((0, 1, 2, 3, 4)))
        left = trimmed(machine)
        self.assertEqual(left[1], machine[1])
        self.assertEqual(trimmed(left), left)


if __name__ == "__main__":
    unittest.main()
