"""Points [11] to [13]: tight logs, ranks and turned machines."""

import random
import unittest

from anyvalues.machines import answers, check_machine
from anyvalues.orders import ranks_of, tight, turned
from anyvalues.texts import read_machine, write_machine
from helpers import EXAMPLE, FALSE, TRUE, one_case, random_log, random_machine, silent

HUGE = 10 ** 5000


class TightLogs(unittest.TestCase):

    def test_the_number_of_different_lower_values(self):
        for values, wanted in (
            ((), ()),
            ((5,), (0,)),
            ((-5,), (0,)),
            ((3, 3, 3), (0, 0, 0)),
            ((5, 6, 4), (1, 2, 0)),
            ((100, -100, 0, 100, 7), (3, 0, 1, 3, 2)),
            ((HUGE, -HUGE, HUGE - 1, HUGE), (2, 0, 1, 2)),
            ((0, 2, 4), (0, 1, 2)),
            ((2, 0, 2, 0), (1, 0, 1, 0)),
        ):
            self.assertEqual(tight(tuple((0, value) for value in values)), tuple((0, value) for value in wanted))

    def test_tags_stay(self):
        self.assertEqual(tight(((3, 9), (HUGE, 2), (0, 9))), ((3, 1), (HUGE, 0), (0, 1)))

    def test_a_list_is_not_changed(self):
        log = [(0, 9), (1, 2)]
        told = tight(log)
        self.assertEqual(told, ((0, 1), (1, 0)))
        self.assertIs(type(told), tuple)
        self.assertEqual(log, [(0, 9), (1, 2)])
        log[0] = (0, 0)
        self.assertEqual(told, ((0, 1), (1, 0)))
        self.assertEqual(tight([]), ())

    def test_random_logs(self):
        dice = random.Random(1)
        for _ in range(200):
            log = random_log(dice, 3, dice.randrange(9), -6, 6)
            told = tight(log)
            values = [value for _, value in log]
            self.assertEqual(told, tuple((tag, len({low for low in values if low < value})) for tag, value in log))
            self.assertEqual(tight(told), told)
            self.assertEqual(tight([(tag, 5 * value ** 3 - 2) for tag, value in log]), told)

    def test_logs_of_other_orders(self):
        self.assertNotEqual(tight(((0, 1), (0, 2))), tight(((0, 2), (0, 1))))
        self.assertNotEqual(tight(((0, 1), (0, 2))), tight(((0, 2), (0, 2))))
        self.assertNotEqual(tight(((0, 1), (0, 2))), tight(((0, 1), (1, 2))))


class Ranks(unittest.TestCase):

    def test_ranks(self):
        for held, wanted in (
            ((), ()),
            ((None,), (None,)),
            ((None, None), (None, None)),
            ((7,), (0,)),
            ((7, 7), (0, 0)),
            ((7, None, -7, 7), (1, None, 0, 1)),
            ((3, 1, 2, 0), (3, 1, 2, 0)),
            ((0, None, HUGE, -HUGE), (1, None, 2, 0)),
            (tuple(range(20, 0, -1)), tuple(range(19, -1, -1))),
            ((5, 9, 5, 9, 1, 5, None, 9), (1, 2, 1, 2, 0, 1, None, 2)),
        ):
            self.assertEqual(ranks_of(held), wanted)
            self.assertEqual(ranks_of(wanted), wanted)


class TurnedMachines(unittest.TestCase):

    def test_every_less_and_nothing_else(self):
        def of(condition):
            return (2, 2, (((), ((condition, (1, -2), ((4, 0),), 1),)), ((), ())))

        for condition, wanted in (
            (("less", 0, -1), ("less", -1, 0)),
            (("less", 0, 0), ("less", 0, 0)),
            (("less", 0, 1), ("less", 1, 0)),
            (("same", 0, -1), ("same", 0, -1)),
            (("empty", 1), ("empty", 1)),
            (TRUE, TRUE),
            (FALSE, FALSE),
            (("all", ()), ("all", ())),
            (("any", ()), ("any", ())),
            (("not", ("less", 1, -1)), ("not", ("less", -1, 1))),
            (("all", (("same", 0, 1), ("less", 0, 1), TRUE)), ("all", (("same", 0, 1), ("less", 1, 0), TRUE))),
            (("any", (("not", ("all", (("less", -1, 0), ("empty", 0)))),)),
             ("any", (("not", ("all", (("less", 0, -1), ("empty", 0)))),))),
        ):
            self.assertEqual(turned(of(condition)), of(wanted))

    def test_deep_conditions(self):
        condition, wanted = ("less", 0, -1), ("less", -1, 0)
        for _ in range(9):
            condition, wanted = ("not", ("any", (TRUE, condition))), ("not", ("any", (TRUE, wanted)))
        self.assertEqual(turned(one_case(condition, (0,))), one_case(wanted, (0,)))

    def test_machines_without_cases(self):
        self.assertEqual(turned(silent(3)), silent(3))

    def test_turned_twice_it_is_the_machine(self):
        for seed in range(60):
            machine = random_machine(seed, 3, 3, 2, 4)
            self.assertEqual(turned(turned(machine)), machine)

    def test_it_is_right_and_can_be_written_and_read(self):
        for seed in range(60):
            machine = turned(random_machine(seed, 3, 3, 2, 4))
            self.assertIsNone(check_machine(machine))
            self.assertEqual(read_machine(write_machine(machine)), machine)

    def test_answers_to_negated_logs(self):
        dice = random.Random(2)
        self.assertEqual(answers(turned(EXAMPLE), ((0, 5), (0, 8), (0, 3))), (((0, 5),), (), ((0, 3), (1, 5))))
        for seed in range(100):
            machine = random_machine(seed, 3, 3, 2, 4)
            log = random_log(dice, 2, 12, -5, 5)
            negated = [(tag, -value) for tag, value in log]
            wanted = tuple(
                tuple((tag, None if value is None else -value) for tag, value in said)
                for said in answers(machine, log)
            )
            self.assertEqual(answers(turned(machine), negated), wanted)


if __name__ == "__main__":
    unittest.main()
