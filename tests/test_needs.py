"""Points [22] and [23]: needed values and kinds."""

import random
import unittest

from anyvalues.needs import kinds_of, needed, one_kind
from anyvalues.types import types_of
from helpers import EXAMPLE, FALSE, TRUE, between, filled, one_case, random_machine, silent
from oracles import rich_machine, slow_kinds, slow_needed, slow_one_kind, some_type

BELOW = ("less", -1, 0)
ABOVE = ("less", 0, -1)

# Says the least of the so many greatest values that came so far; the registers hold them, the greatest first.
def lowest_of_greatest(many):
    steps = []
    for filled_ones in range(many + 1):
        cases = []
        for at in range(filled_ones + 1):
            if at == many:
                cases.append((TRUE, tuple(range(many)), ((0, many - 1),), many))
                continue
            moves = (*range(at), -1, *range(at, many - 1))
            moves = moves[:filled_ones + 1] + (-2,) * (many - filled_ones - 1)
            says = ((0, -1 if at == many - 1 else many - 2),) if filled_ones == many else ()
            following = min(filled_ones + 1, many)
            cases.append((("less", at, -1) if at < filled_ones else TRUE, moves, says, following))
        steps.append((tuple(cases),))
    return (1, many, tuple(steps))


class Needed(unittest.TestCase):

    def test_a_value_that_is_only_said(self):
        machine = filled(1, [(TRUE, (0,))])
        self.assertEqual(needed(machine, (1, (0,))), ())
        says = (1, 1, (machine[2][0], (((TRUE, (0,), ((3, 0),), 1),),)))
        self.assertEqual(needed(says, (1, (0,))), (0,))
        self.assertEqual(needed(says, (0, (0,))), ())
        says_two = (1, 3, ((((TRUE, (0, 1, 2), ((0, 2), (0, 0)), 0),),),))
        self.assertEqual(needed(says_two, (0, (2, 1, 0))), (0, 2))
        self.assertEqual(needed(says_two, (0, (0, 1, 0))), (0,))

    def test_a_value_that_is_only_compared(self):
        for condition in (BELOW, ABOVE, ("same", 0, -1), ("not", ("same", -1, 0)), ("not", BELOW)):
            machine = one_case(condition, (0,), ((0, -1),))
            self.assertEqual(needed(machine, (0, (0,))), (0,), condition)
            self.assertEqual(needed(machine, (0, (None,))), (), condition)
        machine = (1, 3, ((((between(0, 2), (0, 1, 2), ((0, -1),), 0),),),))
        self.assertEqual(needed(machine, (0, (0, 1, 2))), (0, 2))
        self.assertEqual(needed(machine, (0, (2, 1, 0))), ())
        self.assertEqual(needed(machine, (0, (0, None, 1))), (0, 1))

    def test_what_is_held_and_never_used(self):
        self.assertEqual(needed(one_case(TRUE, (-1, 0, 1), ((0, -1),)), (0, (0, 2, 1))), ())
        # The two registers are told apart by their order, which does not change with the values.
        machine = one_case(("less", 0, 1), (0, 1), ((0, -1),))
        self.assertEqual(needed(machine, (0, (0, 1))), ())
        self.assertEqual(needed(machine, (0, (1, 0))), ())
        # An entry says the same whether the value is below, at or above that of the register.
        machine = (1, 1, ((((BELOW, (0,), ((0, -1),), 0), (TRUE, (0,), ((0, -1),), 0)),),))
        self.assertEqual(needed(machine, (0, (0,))), ())
        # A held value that is said only where it is the one that is read.
        machine = (1, 1, ((((("same", 0, -1), (0,), ((0, 0),), 0), (TRUE, (0,), ((0, -1),), 0)),),))
        self.assertEqual(needed(machine, (0, (0,))), ())

    def test_a_value_that_is_used_late(self):
        for many in (10, 17, 36):
            waits = [(TRUE, (0, 1))] * many
            machine = filled(2, waits + [(("less", -1, 1), (0, 1))])
            self.assertEqual(needed(machine, (2, (0, 1))), (1,))
            self.assertEqual(needed(machine, (2, (1, 0))), (0,))
            self.assertEqual(needed(machine, (2, (0, 0))), (0,))
            self.assertEqual(needed(machine, (0, (0, 1))), ())
            self.assertEqual(needed(machine, (1, (0, 1))), ())
            self.assertEqual(needed(filled(2, waits + [(TRUE, (0, 1))]), (2, (0, 1))), ())

    def test_a_rank_that_is_held_twice(self):
        machine = one_case(("less", 1, -1), (1, 0), ((0, -1),))
        self.assertEqual(needed(machine, (0, (0, 0))), (0,))
        machine = one_case(("less", 1, -1), (0, 1), ((0, -1),))
        self.assertEqual(needed(machine, (0, (0, 0))), (0,))
        self.assertEqual(needed(machine, (0, (0, 1))), (1,))

    def test_all_registers_play_a_part(self):
        for many in (3, 4):
            machine = lowest_of_greatest(many)
            self.assertEqual(needed(machine, (many, tuple(range(many - 1, -1, -1)))), tuple(range(many)))
            self.assertEqual(needed(machine, (many, (0,) * many)), (0,))
            self.assertEqual(needed(machine, (0, (None,) * many)), ())

    def test_room_enough_is_taken(self):
        # Something is said only if so many values come between the two that are held, each above the one before.
        machine = filled(2, [(between(0, 1), (-1, 1))] * 12)
        self.assertEqual(needed(machine, (2, (0, 1))), (0, 1))
        self.assertEqual(needed(machine, (2, (1, 0))), ())
        self.assertEqual(needed(machine, (2, (0, 0))), ())

    def test_the_same_as_by_changing_values(self):
        dice = random.Random(5)
        some = 0
        for seed in range(90):
            registers = 3 if seed % 30 == 0 else 1 + seed % 2
            machine = rich_machine(seed, 2, registers, 1 + seed % 2, 3, (seed % 5) / 5)
            for kind in [some_type(dice, machine) for _ in range(3)] + [dice.choice(types_of(machine))]:
                told = needed(machine, kind)
                self.assertEqual(told, slow_needed(machine, kind), (seed, kind))
                some += 0 < len(told) < len(set(kind[1]) - {None})
        self.assertGreater(some, 10)
        for seed in range(60):
            machine = random_machine(seed, 3, 3, 2, 4)
            kind = some_type(dice, machine)
            self.assertEqual(needed(machine, kind), slow_needed(machine, kind), (seed, kind))


class OneKind(unittest.TestCase):

    def test_a_type_and_itself(self):
        for seed in range(30):
            machine = rich_machine(seed, 2, 3, 2)
            kind = some_type(random.Random(seed), machine)
            self.assertTrue(one_kind(machine, kind, machine, kind))

    def test_equally_many_needed_ranks_and_another_behaviour(self):
        below, above = one_case(BELOW, (0,), ((0, -1),)), one_case(ABOVE, (0,), ((0, -1),))
        self.assertFalse(one_kind(below, (0, (0,)), above, (0, (0,))))
        self.assertTrue(one_kind(below, (0, (None,)), above, (0, (None,))))
        self.assertFalse(one_kind(silent(), (0, ()), one_case(TRUE, (), ((0, -1),)), (0, ())))
        self.assertFalse(one_kind(one_case(TRUE, (), ((0, -1),)), (0, ()), one_case(TRUE, (), ((0, -2),)), (0, ())))

    def test_another_number_of_needed_ranks(self):
        machine = one_case(("any", (BELOW, ("less", 1, -1))), (0, 1), ((0, -1),))
        self.assertFalse(one_kind(machine, (0, (0, 1)), machine, (0, (0, None))))
        self.assertFalse(one_kind(machine, (0, (None, None)), machine, (0, (0, None))))

    def test_registers_in_another_order(self):
        one = (1, 2, ((((between(0, 1), (0, 1), ((0, -1),), 0),),),))
        other = (1, 3, ((((between(2, 0), (0, -1, 2), ((0, -1),), 0), (TRUE, (0, -1, 2), (), 0)),),))
        self.assertTrue(one_kind(one, (0, (0, 1)), other, (0, (2, 1, 0))))
        self.assertTrue(one_kind(one, (0, (0, 1)), other, (0, (1, 1, 0))))
        self.assertFalse(one_kind(one, (0, (0, 1)), other, (0, (0, 1, 2))))
        self.assertTrue(one_kind(one, (0, (1, 0)), other, (0, (0, 1, 2))))
        self.assertTrue(one_kind(one, (0, (1, 0)), one, (0, (None, 0))))

    def test_the_order_of_the_needed_values_counts(self):
        # Both say both values, the lower one first or the higher one.
        machine = (1, 2, ((((TRUE, (0, 1), ((0, 0), (0, 1)), 0),),),))
        self.assertFalse(one_kind(machine, (0, (0, 1)), machine, (0, (1, 0))))
        turned_round = (1, 2, ((((TRUE, (0, 1), ((0, 1), (0, 0)), 0),),),))
        self.assertTrue(one_kind(machine, (0, (0, 1)), turned_round, (0, (1, 0))))

    def test_the_same_as_by_contents(self):
        dice = random.Random(9)
        alike = 0
        for seed in range(80):
            tags = 1 + seed % 2
            one = rich_machine(seed, 2, 1 + seed % 3, tags, 3, 0.3)
            other = rich_machine(seed + 1000, 1, 1 + seed % 2, tags, 3, 0.3)
            for mine, its in ((one, one), (one, other), (other, other)):
                kind, another = dice.choice(types_of(mine)), some_type(dice, its)
                told = one_kind(mine, kind, its, another)
                self.assertEqual(told, slow_one_kind(mine, kind, its, another), (seed, kind, another))
                self.assertEqual(told, one_kind(its, another, mine, kind))
                alike += told
        self.assertGreater(alike, 20)


class KindsOf(unittest.TestCase):

    def test_one_kind(self):
        self.assertEqual(kinds_of(silent()), ((0, ()),))
        self.assertEqual(kinds_of(silent(3)), ((0, ()),))
        self.assertEqual(kinds_of((1, 3, (((),), ((),)))), ((0, (None, None, None)),))
        self.assertEqual(kinds_of(one_case(FALSE, (-1, -1), ((0, -1),))), ((0, (None, None)),))
        self.assertEqual(kinds_of(one_case(TRUE, (-1, 0, 1), ((0, -1),))), ((0, (None,) * 3),))

    def test_the_example(self):
        self.assertEqual(kinds_of(EXAMPLE), ((0, (None,)), (0, (0,))))

    def test_the_order_in_which_they_are_found(self):
        # Tag by tag: the second tag leads to standing 1, the first one to standing 2.
        def speaks(tag):
            return ((TRUE, (), ((tag, -1),), 0),)

        machine = (2, 0, (
            (((TRUE, (), (), 2),), ((TRUE, (), (), 1),)), (speaks(1), ()), (speaks(2), ()),
        ))
        self.assertEqual(kinds_of(machine), ((0, ()), (2, ()), (1, ())))
        # Spot by spot: below, at and above the held value.
        machine = (1, 1, (
            (((TRUE, (-1,), (), 1),),),
            (((ABOVE, (-2,), (), 2), (BELOW, (-2,), (), 3), (TRUE, (-2,), (), 4)),),
            (((TRUE, (-2,), ((2, -1),), 2),),), (((TRUE, (-2,), ((3, -1),), 3),),), (((TRUE, (-2,), ((4, -1),), 4),),),
        ))
        self.assertEqual(kinds_of(machine), ((0, (None,)), (1, (0,)), (3, (None,)), (4, (None,)), (2, (None,))))

    def test_the_lowest_spot_of_the_type(self):
        # Two values are held and only the lower one is needed: a value above it is taken just above it.
        machine = (1, 3, (
            (((TRUE, (-1, -2, -2), (), 1),),),
            (((ABOVE, (0, -1, -2), (), 2),),),
            (((ABOVE, (0, 1, -1), (), 3), (BELOW, (0, 1, -1), (), 3)),),
            (((ABOVE, (0, 1, 2), ((0, 0),), 3),),),
        ))
        self.assertEqual(needed(machine, (2, (0, 1, None))), (0,))
        # Below the needed one too it is the lowest spot, 0.
        self.assertEqual(kinds_of(machine), (
            (0, (None, None, None)), (1, (0, None, None)), (2, (0, 1, None)), (3, (1, 2, 0)),
        ))
        only_above = machine[2][:2] + ((((ABOVE, (0, 1, -1), (), 3),),),) + machine[2][3:]
        self.assertEqual(kinds_of((1, 3, only_above))[-1], (3, (0, 2, 1)))

    def test_the_same_as_by_contents(self):
        most = 0
        for seed in range(40):
            machine = rich_machine(seed, 1 + seed % 2, 1 + seed % 2, 1 + seed % 2, 3, 0.4)
            told = kinds_of(machine)
            most = max(most, len(told))
            self.assertEqual(told, slow_kinds(machine), seed)
        for seed in range(40):
            machine = random_machine(seed, 3, 2, 2, 4)
            self.assertEqual(kinds_of(machine), slow_kinds(machine), seed)
        self.assertGreater(most, 5)

    def test_it_hangs_on_the_machine_alone(self):
        machines = [rich_machine(seed, 2, 2, 2) for seed in range(20)]
        told = [kinds_of(machine) for machine in machines]
        again = [kinds_of(machine) for machine in reversed(machines)]
        self.assertEqual(told, again[::-1])


if __name__ == "__main__":
    unittest.main()
