"""Points [13] to [15]: types, spots, the step of a type, and the types that can come about."""

import random
import unittest

from anyvalues.machines import read
from anyvalues.types import step_of, type_of, types_of
from helpers import (
    EXAMPLE, FALSE, TRUE, between, content_after, filled, joint_step, joints_by_search, logs_of, one_case,
    random_chain, random_machine, silent,
)

HUGE = 10 ** 5000


class Types(unittest.TestCase):

    def test_type_of_a_content(self):
        self.assertEqual(type_of((0, ())), (0, ()))
        self.assertEqual(type_of((3, (None, 5, -5, 5))), (3, (None, 1, 0, 1)))
        self.assertEqual(type_of((39, (HUGE, HUGE + 1))), (39, (0, 1)))


class Steps(unittest.TestCase):

    def test_each_spot(self):
        # Holds the new value in register 2 and says all four that there are.
        machine = one_case(TRUE, (0, 1, -1, -2), ((0, -1), (1, 0), (2, 1), (3, 2), (4, 3), (5, -2)))
        kind = (0, (1, 0, 1, None))
        for spot, ranks in enumerate(((2, 1, 0, None), (1, 0, 0, None), (2, 0, 1, None), (1, 0, 1, None),
                                      (1, 0, 2, None))):
            said = ((0, spot), (1, 3), (2, 1), (3, 3), (4, None), (5, None))
            self.assertEqual(step_of(machine, kind, 0, spot), ((0, ranks), said))

    def test_all_registers_empty(self):
        machine = one_case(TRUE, (1, -1), ((0, 0), (0, -1)))
        self.assertEqual(step_of(machine, (0, (None, None)), 0, 0), ((0, (None, 0)), ((0, None), (0, 0))))
        self.assertEqual(step_of(silent(), (0, ()), 0, 0), ((0, ()), ()))

    def test_ranks_close_up(self):
        machine = one_case(TRUE, (0, -2, 2), ((7, 1),))
        self.assertEqual(step_of(machine, (0, (2, 1, 0)), 0, 6), ((0, (1, None, 0)), ((7, 3),)))
        self.assertEqual(step_of(one_case(TRUE, (-1,)), (0, (0,)), 0, 2), ((0, (0,)), ()))

    def test_no_case_that_holds(self):
        machine = (2, 2, ((((FALSE, (-1, -1), ((0, 0),), 0),), ()), ((), ())))
        for standing in (0, 1):
            for tag in (0, 1):
                for spot in range(5):
                    kind = (standing, (1, 0))
                    self.assertEqual(step_of(machine, kind, tag, spot), (kind, ()))

    def test_types_that_cannot_come_about(self):
        self.assertNotIn((0, (0,)), types_of(one_case(TRUE, (-2,))))
        self.assertEqual(step_of(one_case(TRUE, (-2,), ((0, 0),)), (0, (0,)), 0, 2), ((0, (None,)), ((0, 1),)))
        self.assertEqual(step_of(EXAMPLE, (0, (0,)), 0, 1), ((0, (0,)), ()))
        self.assertEqual(step_of(EXAMPLE, (0, (0,)), 0, 2), ((0, (0,)), ((0, 2), (1, 1))))

    def test_it_is_the_same_for_all_contents_of_the_type(self):
        dice = random.Random(3)
        for seed in range(150):
            machine = random_machine(seed, 3, 3, 2, 4)
            many = dice.randrange(4)
            values = sorted(dice.sample(range(-40, 40), many))
            held = tuple(dice.choice(values + [None]) for _ in range(3))
            values = sorted(set(held) - {None})
            content = (dice.randrange(3), held)
            edges = [-60] + values + [60]
            for tag in (0, 1):
                for spot in range(2 * len(values) + 1):
                    low, high = edges[spot // 2], edges[spot // 2 + 1]
                    for value in (high,) if spot % 2 else (low + 1, high - 1):
                        if spot % 2 == 0 and value in values:
                            continue
                        spots = {worth: 2 * rank + 1 for rank, worth in enumerate(values)}
                        value = values[spot // 2] if spot % 2 else value
                        spots[value] = spot
                        after, said = read(machine, content, (tag, value))
                        wanted = (type_of(after), tuple((told, spots.get(worth)) for told, worth in said))
                        self.assertEqual(step_of(machine, type_of(content), tag, spot), wanted)

    def test_steps_of_contents_with_room(self):
        for seed in range(40):
            machine = random_machine(seed, 2, 4, 2, 4)
            for ranks in ((None,) * 4, (0, 0, 0, 0), (0, 1, 2, 3), (2, None, 0, 1), (2, 1, None, 0), (1, 0, 1, 0)):
                for spot in range(2 * len(set(ranks) - {None}) + 1):
                    after, said = joint_step((machine,), (1, ranks), 1, spot)
                    self.assertEqual(step_of(machine, (1, ranks), 1, spot), (after, said[0]))


class ComingAbout(unittest.TestCase):

    def test_small_machines(self):
        self.assertEqual(types_of(silent()), ((0, ()),))
        self.assertEqual(types_of(one_case(FALSE, (-1,))), ((0, (None,)),))
        self.assertEqual(types_of((1, 2, (((),), ((),)))), ((0, (None, None)),))
        self.assertEqual(types_of(EXAMPLE), ((0, (None,)), (0, (0,))))

    def test_the_order_in_which_they_are_found(self):
        # The last two values: tag 1 empties the second register.
        machine = (2, 2, ((((TRUE, (-1, 0), (), 0),), ((TRUE, (0, -2), (), 0),)),))
        self.assertEqual(types_of(machine), (
            (0, (None, None)), (0, (0, None)), (0, (0, 1)), (0, (0, 0)), (0, (1, 0)),
        ))

    def test_tag_by_tag_then_spot_by_spot(self):
        rest = ((), ())
        three = ((("less", 0, -1), (0,), (), 3), (("less", -1, 0), (0,), (), 4), (TRUE, (0,), (), 5))
        machine = (2, 1, (
            (((TRUE, (-1,), (), 2),), ((TRUE, (-1,), (), 1),)), rest, (three, ()), rest, rest, rest,
        ))
        self.assertEqual(types_of(machine), (
            (0, (None,)), (2, (0,)), (1, (0,)), (4, (0,)), (5, (0,)), (3, (0,)),
        ))

    def test_every_type_after_a_log_and_no_other(self):
        for seed in range(60):
            machine = random_machine(seed, 2, 2, 1, 4)
            found = {type_of(content_after(machine, log)) for length in range(5) for log in logs_of(1, length)}
            told = types_of(machine)
            self.assertEqual(len(told), len(set(told)))
            self.assertLessEqual(found, set(told))

    def test_the_same_as_a_search_by_the_words_of_the_document(self):
        for seed in range(60):
            machine = random_machine(seed, 3, 3, 2, 4)
            self.assertEqual(types_of(machine), joints_by_search((machine,))[0])
        for seed in range(40):
            machine = random_chain(seed)
            self.assertEqual(types_of(machine), joints_by_search((machine,))[0])

    def test_all_orders_of_the_registers(self):
        shift = one_case(TRUE, (-1, 0, 1))
        # One type without values, one with one, three with two, thirteen with three.
        self.assertEqual(len(types_of(shift)), 1 + 1 + 3 + 13)
        machine = filled(2, [(between(0, 1), (0, -1)), (between(0, 1), (-2, -2))])
        self.assertIn((3, (0, 1)), types_of(machine))
        self.assertNotIn((3, (1, 0)), types_of(machine))


if __name__ == "__main__":
    unittest.main()
