"""Points [4] to [6]: which machines are right."""

import unittest

from anyvalues.errors import InvalidMachine
from anyvalues.machines import check_machine
from helpers import EXAMPLE, FALSE, TRUE, one_case, random_machine, silent

HUGE = 10 ** 5000


def deep(condition, depth):
    """The condition within so many others that the whole has this depth."""
    for level in range(depth - 1):
        shell = level % 3
        if shell == 0:
            condition = ("not", condition)
        elif shell == 1:
            condition = ("all", (TRUE, condition))
        else:
            condition = ("any", (condition, FALSE))
    return condition


class RightMachines(unittest.TestCase):

    def right(self, machine):
        self.assertIsNone(check_machine(machine))

    def test_example_and_random_machines(self):
        self.right(EXAMPLE)
        for seed in range(60):
            self.right(random_machine(seed, 1 + seed % 4, seed % 5, 1 + seed % 3, 4))

    def test_no_cases_and_no_registers(self):
        self.right((1, 0, (((),),)))
        self.right((3, 0, (((), (), ()), ((), (), ()))))
        self.right(one_case(TRUE))

    def test_every_place_and_source_that_is_allowed(self):
        for place in (-1, 0, 1):
            for other in (-1, 0, 1):
                self.right(one_case(("less", place, other), (place, other)))
                self.right(one_case(("same", place, other), (-2, -2), ((0, place), (HUGE, -2))))
            self.right(one_case(("empty", place), (0, 1)))
        self.right(one_case(("same", -1, -1)))

    def test_beyond_the_bounds(self):
        self.right((1, HUGE, (((),),)))
        self.right((70, 0, (((),) * 70,)))
        self.right((1, 0, (((),),) * 90))
        self.right((1, 80, ((((("empty", 79), tuple(range(80)), ((9, 79),) * 30, 0),) * 100,),)))
        self.right((1, 0, ((((TRUE, (), (), 89),),),) * 90))

    def test_wide_and_deep_conditions(self):
        self.right(one_case(("all", (TRUE,) * 5000)))
        self.right(one_case(("any", ())))
        self.right(one_case(deep(("less", 0, -1), 20), (0,)))
        self.right(one_case(deep(("less", 0, -1), 40), (0,)))


class WrongMachines(unittest.TestCase):

    def wrong(self, machine):
        with self.assertRaises(InvalidMachine) as caught:
            check_machine(machine)
        self.assertIs(type(caught.exception), InvalidMachine)

    def test_numbers_of_tags_registers_and_standings(self):
        self.wrong((0, 0, ((),)))
        self.wrong((-1, 0, ((),)))
        self.wrong((-HUGE, 0, ((),)))
        self.wrong((0, 0, ()))
        self.wrong((1, 0, ()))
        self.wrong((1, -1, (((),),)))
        self.wrong((1, -HUGE, (((),),)))

    def test_a_tuple_of_cases_for_each_tag(self):
        self.wrong((1, 0, ((),)))
        self.wrong((1, 0, (((), ()),)))
        self.wrong((2, 0, (((), ()), ((),))))
        self.wrong((2, 0, (((), (), ()), ((), ()))))
        self.wrong((HUGE, 0, (((),),)))

    def test_places_in_conditions(self):
        for place in (-2, -3, 2, 3, HUGE, -HUGE):
            for condition in (
                ("less", place, 0), ("less", -1, place), ("same", place, 1), ("same", 1, place), ("empty", place),
            ):
                self.wrong(one_case(condition, (0, 1)))
                for depth in (2, 3, 4, 5, 19, 20):
                    self.wrong(one_case(deep(condition, depth), (0, 1)))
                self.wrong(one_case(("all", (TRUE,) * 300 + (condition,)), (0, 1)))
                self.wrong(one_case(("any", (condition,) + (TRUE,) * 300), (0, 1)))

    def test_a_place_without_registers(self):
        self.wrong(one_case(("empty", 0)))
        self.wrong(one_case(("less", -1, 0)))

    def test_sources_in_moves(self):
        for source in (-3, 2, 17, HUGE, -HUGE):
            self.wrong(one_case(TRUE, (source, 0)))
            self.wrong(one_case(TRUE, (0, source)))

    def test_sources_and_tags_in_says(self):
        for source in (-3, 1, 2, HUGE, -HUGE):
            self.wrong(one_case(TRUE, (0,), ((0, source),)))
            self.wrong(one_case(TRUE, (0,), ((0, 0), (1, source), (0, 0))))
        for tag in (-1, -2, -HUGE):
            self.wrong(one_case(TRUE, (0,), ((tag, 0),)))
            self.wrong(one_case(TRUE, (0,), ((0, 0), (0, 0), (tag, 0))))

    def test_numbers_of_moves(self):
        self.wrong((1, 1, ((((TRUE, (), (), 0),),),)))
        self.wrong((1, 1, ((((TRUE, (0, 0), (), 0),),),)))
        self.wrong((1, 0, ((((TRUE, (-1,), (), 0),),),)))
        self.wrong((1, HUGE, ((((TRUE, (-1,), (), 0),),),)))

    def test_next_standings(self):
        for following in (-1, 1, 2, HUGE, -HUGE):
            self.wrong((1, 0, ((((TRUE, (), (), following),),),)))
        self.wrong((1, 0, ((((TRUE, (), (), 2),),), ((),))))

    def test_a_fault_in_any_case_is_found(self):
        good = (TRUE, (), (), 0)
        bad = (("empty", 0), (), (), 0)
        for standing in range(3):
            for tag in range(3):
                for number in range(3):
                    steps = [[[good] * 3 for _ in range(3)] for _ in range(3)]
                    steps[standing][tag][number] = bad
                    self.wrong((3, 0, tuple(tuple(map(tuple, row)) for row in steps)))

    def test_a_case_that_is_never_carried_out_is_checked_too(self):
        self.wrong((1, 0, (((),), (((FALSE, (), (), 9),),))))
        self.assertIsNone(check_machine(silent()))


if __name__ == "__main__":
    unittest.main()
