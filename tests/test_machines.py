"""Points [4], [5], [7], [8], [11]: conditions, and how a machine reads a log."""

import random
import unittest

from anyvalues.machines import answers, answers_from, beginning, holds, read
from helpers import EXAMPLE, FALSE, TRUE, one_case, random_log, random_machine, silent

HUGE = 10 ** 5000


class Conditions(unittest.TestCase):

    def check(self, condition, value, held, wanted):
        self.assertIs(holds(condition, value, held), wanted, condition)
        self.assertIs(holds(("not", condition), value, held), not wanted, condition)

    def test_true_and_false(self):
        self.check(TRUE, 0, (), True)
        self.check(FALSE, 0, (), False)

    def test_less_and_same(self):
        held = (3, 5, 3, None, 0)
        for one in (-1, 0, 1, 2, 4):
            for other in (-1, 0, 1, 2, 4):
                low = 4 if one == -1 else held[one]
                high = 4 if other == -1 else held[other]
                self.check(("less", one, other), 4, held, low < high)
                self.check(("same", one, other), 4, held, low == high)

    def test_empty_registers_are_neither_less_nor_the_same(self):
        for place in (-1, 0, 1, 2):
            for word in ("less", "same"):
                self.check((word, place, 1), 0, (0, None, None), False)
                self.check((word, 1, place), 0, (0, None, None), False)

    def test_empty(self):
        held = (None, 0, -1, None)
        for place, wanted in ((-1, False), (0, True), (1, False), (2, False), (3, True)):
            self.check(("empty", place), 0, held, wanted)

    def test_a_register_and_itself(self):
        self.check(("same", 0, 0), 1, (2,), True)
        self.check(("less", 0, 0), 1, (2,), False)
        self.check(("same", -1, -1), 1, (), True)
        self.check(("less", -1, -1), 1, (), False)

    def test_all_and_any(self):
        self.check(("all", ()), 0, (), True)
        self.check(("any", ()), 0, (), False)
        for one in (TRUE, FALSE):
            self.check(("all", (one,)), 0, (), one == TRUE)
            self.check(("any", (one,)), 0, (), one == TRUE)
            for other in (TRUE, FALSE):
                self.check(("all", (one, other)), 0, (), one == TRUE and other == TRUE)
                self.check(("any", (one, other)), 0, (), one == TRUE or other == TRUE)

    def test_deep_and_wide(self):
        condition = ("less", 0, -1)
        for depth in range(2, 41):
            condition = ("not", condition) if depth % 2 else ("all", (TRUE, ("any", (FALSE, condition))))
        # Nineteen of the shells are "not".
        self.check(condition, 2, (1,), False)
        self.check(condition, 1, (2,), True)
        deep = ("same", -1, 0)
        for _ in range(20):
            deep = ("not", deep)
        self.check(deep, 5, (5,), True)
        self.check(deep, 5, (6,), False)
        self.check(("all", (TRUE,) * 3000 + (("less", 0, -1),)), 5, (6,), False)
        self.check(("any", (FALSE,) * 3000 + (("less", 0, -1),)), 7, (6,), True)

    def test_values_of_any_size(self):
        self.check(("less", -1, 0), HUGE, (HUGE + 1,), True)
        self.check(("same", -1, 0), HUGE, (10 ** 5000,), True)
        self.check(("less", 0, -1), -HUGE, (-HUGE - 1,), True)


class Reading(unittest.TestCase):

    def test_beginning(self):
        self.assertEqual(beginning(silent()), (0, ()))
        self.assertEqual(beginning(EXAMPLE), (0, (None,)))
        self.assertEqual(beginning(random_machine(1, 3, 4)), (0, (None,) * 4))

    def test_example_of_the_interface(self):
        self.assertEqual(answers(EXAMPLE, ((0, 5), (0, 3), (0, 8))), (((0, 5),), (), ((0, 8), (1, 5))))
        self.assertEqual(read(EXAMPLE, (0, (5,)), (0, 8)), ((0, (8,)), ((0, 8), (1, 5))))

    def test_the_first_case_that_holds_and_no_later_one(self):
        machine = (1, 1, ((((FALSE, (-2,), ((0, -1),), 0),
                            (("empty", 0), (-1,), ((1, -1),), 0),
                            (TRUE, (0,), ((2, -1),), 0),
                            (TRUE, (-2,), ((3, -1),), 0)),),))
        self.assertEqual(answers(machine, ((0, 4), (0, 6))), (((1, 4),), ((2, 6),)))

    def test_no_case_that_holds(self):
        machine = (1, 1, ((((("empty", 0), (-1,), ((0, -1),), 1),),), (((FALSE, (-2,), ((0, 0),), 0),),)))
        self.assertEqual(read(machine, (0, (3,)), (0, 9)), ((0, (3,)), ()))
        self.assertEqual(read(machine, (1, (3,)), (0, 9)), ((1, (3,)), ()))
        self.assertEqual(read(silent(), (0, ()), (0, 9)), ((0, ()), ()))

    def test_sources_are_taken_before_anything_changes(self):
        machine = one_case(TRUE, (1, 0, -1), ((0, 0), (0, 1), (0, 2)))
        content, said = read(machine, (0, (1, 2, 3)), (0, 9))
        self.assertEqual(content, (0, (2, 1, 9)))
        self.assertEqual(said, ((0, 1), (0, 2), (0, 3)))

    def test_nothing_and_empty_sources(self):
        machine = one_case(TRUE, (-2, 0, 1), ((4, 1), (5, -2), (6, -1), (4, 0)))
        self.assertEqual(read(machine, (0, (7, None, 8)), (0, 9)),
                         ((0, (None, 7, None)), ((4, None), (5, None), (6, 9), (4, 7))))

    def test_tags_and_standings(self):
        machine = (2, 0, (
            (((TRUE, (), ((0, -1),), 1),), ()),
            ((), ((TRUE, (), ((1, -1),), 0),)),
        ))
        log = ((1, 5), (0, 6), (0, 7), (1, 8), (0, 9))
        self.assertEqual(answers(machine, log), ((), ((0, 6),), (), ((1, 8),), ((0, 9),)))

    def test_logs_as_lists_and_tuples(self):
        log = [(0, 5), (0, 3), (0, 8)]
        self.assertEqual(answers(EXAMPLE, log), answers(EXAMPLE, tuple(log)))
        self.assertEqual(answers_from(EXAMPLE, (0, (4,)), log), ((((0, 5), (1, 4)), (), ((0, 8), (1, 5)))))
        self.assertEqual(log, [(0, 5), (0, 3), (0, 8)])
        self.assertEqual(answers(EXAMPLE, ()), ())
        self.assertEqual(answers(EXAMPLE, []), ())
        self.assertIs(type(answers(EXAMPLE, log)), tuple)

    def test_a_log_in_two_pieces(self):
        dice = random.Random(5)
        for seed in range(80):
            machine = random_machine(seed, 3, 2, 2, 4)
            log = random_log(dice, 2, 12, -3, 3)
            cut = dice.randrange(13)
            content = beginning(machine)
            for entry in log[:cut]:
                content, _ = read(machine, content, entry)
            self.assertEqual(answers(machine, log), answers(machine, log[:cut])
                             + answers_from(machine, content, log[cut:]))

    def test_from_any_content(self):
        machine = random_machine(8, 3, 3, 1, 4)
        for standing in range(3):
            content = (standing, (-HUGE, None, HUGE))
            told = answers_from(machine, content, ((0, 0), (0, HUGE)))
            self.assertEqual(len(told), 2)
            self.assertEqual(told[0], read(machine, content, (0, 0))[1])

    def test_a_long_log(self):
        log = [(0, (7 * at) % 401) for at in range(400)]
        best = None
        for (_, value), said in zip(log, answers(EXAMPLE, log)):
            if best is None:
                self.assertEqual(said, ((0, value),))
            else:
                self.assertEqual(said, ((0, value), (1, best)) if value > best else ())
            best = value if best is None else max(best, value)


class RisingChanges(unittest.TestCase):

    def test_answers_are_changed_by_a_rising_change(self):
        dice = random.Random(11)
        changes = (lambda v: v + 7, lambda v: 3 * v, lambda v: v * abs(v) * HUGE + v - 5)
        for seed in range(60):
            machine = random_machine(seed, 3, 3, 2, 4)
            log = random_log(dice, 2, 15, -4, 4)
            for change in changes:
                changed = tuple((tag, change(value)) for tag, value in log)
                wanted = tuple(
                    tuple((tag, None if value is None else change(value)) for tag, value in said)
                    for said in answers(machine, log)
                )
                self.assertEqual(answers(machine, changed), wanted)

    def test_all_values_at_the_same_spot_are_read_alike(self):
        dice = random.Random(12)
        for seed in range(60):
            machine = random_machine(seed, 2, 3, 1, 4)
            held = tuple(dice.choice((None, 10, 20, 30)) for _ in range(3))
            for low, high in ((-5, 9), (11, 19), (21, 29), (31, 99)):
                for standing in range(2):
                    one, said = read(machine, (standing, held), (0, low))
                    other, told = read(machine, (standing, held), (0, high))
                    swap = {low: high}
                    self.assertEqual(other, (one[0], tuple(swap.get(v, v) for v in one[1])))
                    self.assertEqual(told, tuple((tag, swap.get(v, v)) for tag, v in said))


if __name__ == "__main__":
    unittest.main()
