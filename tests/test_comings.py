"""Points [16] and [17]: least logs, cases that can come about, what always holds."""

import itertools
import random
import unittest

from anyvalues.comings import case_log, log_to, relations
from anyvalues.machines import case_at
from anyvalues.orders import tight
from anyvalues.types import type_of, types_of
from helpers import (
    EXAMPLE, FALSE, TRUE, between, content_after, filled, least_by_contents, least_by_search, one_case, random_chain,
    random_machine, silent,
)

BELOW = ("less", -1, 0)
ABOVE = ("less", 0, -1)


def zeros(*values):
    """A log of these values with the tag 0."""
    return tuple((0, value) for value in values)


class LeastLogsToTypes(unittest.TestCase):

    def test_the_empty_log(self):
        for machine in (silent(), EXAMPLE, random_machine(4, 3, 3)):
            self.assertEqual(log_to(machine, (0, (None,) * machine[1])), ())

    def test_what_cannot_come_about(self):
        self.assertIsNone(log_to(EXAMPLE, (1, (0,))))
        self.assertIsNone(log_to(one_case(FALSE, (-1,)), (0, (0,))))
        self.assertIsNone(log_to(one_case(TRUE, (-1, -1)), (0, (0, 1))))
        self.assertIsNone(log_to(one_case(TRUE, (-1, -1)), (0, (0, None))))

    def test_small_types(self):
        shift = one_case(TRUE, (-1, 0, 1))
        self.assertEqual(log_to(shift, (0, (0, None, None))), zeros(0))
        self.assertEqual(log_to(shift, (0, (0, 1, None))), zeros(1, 0))
        self.assertEqual(log_to(shift, (0, (1, 0, None))), zeros(0, 1))
        self.assertEqual(log_to(shift, (0, (0, 0, None))), zeros(0, 0))
        self.assertEqual(log_to(shift, (0, (1, 2, 0))), zeros(0, 2, 1))
        self.assertEqual(log_to(shift, (0, (0, 1, 0))), zeros(0, 1, 0))

    def test_a_shorter_log_comes_first(self):
        # Tag 0 leads to standing 2 in two steps, tag 1 in one.
        machine = (2, 0, (
            (((TRUE, (), (), 1),), ((TRUE, (), (), 2),)),
            (((TRUE, (), (), 2),), ()),
            ((), ()),
        ))
        self.assertEqual(log_to(machine, (2, ())), ((1, 0),))

    def test_the_tag_comes_ahead_of_the_value(self):
        # To standing 1 by tag 1 at once in two equal values, or by tag 0 in a rising pair.
        machine = (2, 1, (
            (((("empty", 0), (-1,), (), 0), (ABOVE, (-2,), (), 1)),
             ((("empty", 0), (-1,), (), 0), (("same", 0, -1), (-2,), (), 1))),
            ((), ()),
        ))
        self.assertEqual(log_to(machine, (1, (None,))), ((0, 0), (0, 1)))
        # By tag 0 alone the first value must leave room below; then tag 1 is no way out.
        machine = (2, 1, (
            (((("empty", 0), (-1,), (), 0), (BELOW, (-2,), (), 1)),
             ((("empty", 0), (-1,), (), 0), (ABOVE, (-2,), (), 1))),
            ((), ()),
        ))
        self.assertEqual(log_to(machine, (1, (None,))), ((0, 0), (1, 1)))

    def test_an_entry_comes_ahead_of_the_next_one(self):
        # One above or one below: the log that begins with 0.
        machine = filled(1, [(("not", ("same", 0, -1)), (-2,)), (FALSE, (-2,))])
        self.assertEqual(log_to(machine, (2, (None,))), zeros(0, 1))

    def test_every_type_of_random_machines(self):
        for seed in range(50):
            machine = random_machine(seed, 2, 2, 1 + seed % 2, 4)
            longest = 5 - machine[0]
            for kind in types_of(machine):
                told = log_to(machine, kind)
                found = least_by_search(
                    machine[0], longest, lambda log: type_of(content_after(machine, log)) == kind
                )
                if len(told) <= longest:
                    self.assertEqual(told, found, (seed, kind))
                else:
                    self.assertIsNone(found, (seed, kind))

    def test_every_type_of_long_machines(self):
        for seed in range(60):
            machine = random_chain(seed)
            for kind in types_of(machine):
                told = log_to(machine, kind)
                self.assertEqual(type_of(content_after(machine, told)), kind)
                self.assertEqual(tight(told), told)

    def test_the_type_stays_with_the_same_machine(self):
        kinds = types_of(random_chain(3))
        before = [log_to(random_chain(3), kind) for kind in kinds]
        for seed in range(4, 9):
            case_log(random_chain(seed), 1, 0, 0)
        self.assertEqual([log_to(random_chain(3), kind) for kind in kinds], before)


class LeastLogsToCases(unittest.TestCase):

    def test_cases_of_the_example(self):
        self.assertEqual(case_log(EXAMPLE, 0, 0, 0), zeros(0))
        self.assertEqual(case_log(EXAMPLE, 0, 0, 1), zeros(0, 1))

    def test_a_case_that_is_never_carried_out(self):
        machine = (1, 1, ((((FALSE, (-1,), (), 0), (TRUE, (-1,), (), 0), (BELOW, (-1,), (), 0)),), ((),)))
        self.assertIsNone(case_log(machine, 0, 0, 0))
        self.assertEqual(case_log(machine, 0, 0, 1), zeros(0))
        self.assertIsNone(case_log(machine, 0, 0, 2))
        self.assertIsNone(case_log(machine, 1, 0, 0))
        # Standing 1 has a case, but nothing leads there.
        self.assertIsNone(case_log((1, 0, (((),), (((TRUE, (), (), 1),),))), 1, 0, 0))

    def test_tags(self):
        machine = (3, 0, (((), ((TRUE, (), (), 1),), ()), ((), (), ((TRUE, (), (), 0),))))
        self.assertEqual(case_log(machine, 0, 1, 0), ((1, 0),))
        self.assertEqual(case_log(machine, 1, 2, 0), ((1, 0), (2, 0)))
        self.assertIsNone(case_log(machine, 0, 0, 0))

    def test_room_below_an_early_value(self):
        for many in (1, 2, 7, 39):
            machine = filled(1, [(BELOW, (-1,))] * many)
            self.assertEqual(case_log(machine, many, 0, 0), zeros(*range(many, -1, -1)))

    def test_room_between_early_values(self):
        for many in (1, 2, 7, 38):
            machine = filled(2, [(between(0, 1), (-1, 1))] * many)
            self.assertEqual(case_log(machine, many + 1, 0, 0), zeros(0, many + 1, *range(1, many + 1)))
            machine = filled(2, [(between(0, 1), (0, -1))] * many)
            self.assertEqual(case_log(machine, many + 1, 0, 0), zeros(0, many + 1, *range(many, 0, -1)))

    def test_room_on_both_sides(self):
        # Two below the first value, then two between the second and the third, which is the first one.
        machine = filled(2, [
            (("less", -1, 1), (0, -1)), (("less", -1, 1), (0, -1)), (between(1, 0), (0, -1)), (between(1, 0), (-1, 1)),
        ])
        self.assertEqual(case_log(machine, 5, 0, 0), least_by_contents(
            (machine,), 6, lambda contents, entry: contents[0][0] == 5 and case_at(machine, contents[0], entry) == 0
        ))

    def test_two_ways_that_ask_for_different_room(self):
        # Behind a value and a greater one: two more between them, or two more below them.
        one = (between(0, 1), (-1, 1), (), 3)
        two = (("less", -1, 0), (-1, 1), (), 4)
        for cases in ((one, two), (two, one)):
            machine = (1, 2, (
                (((TRUE, (-1, -2), (), 1),),),
                (((ABOVE, (0, -1), (), 2),),),
                (cases,),
                (((between(0, 1), (-1, 1), (), 5),),),
                (((("less", -1, 0), (-1, 1), (), 5),),),
                ((),),
            ))
            self.assertEqual(case_log(machine, 3, 0, 0), zeros(0, 3, 1, 2))
            self.assertEqual(case_log(machine, 4, 0, 0), zeros(2, 3, 1, 0))
            self.assertEqual(log_to(machine, (5, (0, 1))), zeros(0, 3, 1, 2))

    def test_the_way_whose_first_values_are_the_least(self):
        # Two between, or one between and one below, or two below: all of them ask for other room.
        def way(many, following):
            steps = [(between(0, 1), (-1, 1))] * many + [(("less", -1, 2), (0, 1))] * (3 - many)
            return [(((condition, (*moves, 2), (), at),),) for (condition, moves), at in zip(steps, following)]

        steps = [
            (((TRUE, (-1, -2, -1), (), 1),),),
            (((ABOVE, (0, -1, 2), (), 2),),),
        ]
        cases = tuple((condition, (0, 1, 2), (), at) for condition, at in (
            (("less", -1, 0), 3), (between(0, 1), 6), (("less", 1, -1), 9),
        ))
        steps.append((cases,))
        for many in (3, 2, 1):
            start = len(steps)
            steps.extend(way(many, (start + 1, start + 2, 12)))
        steps.append(((),))
        machine = (1, 3, tuple(steps))
        for standing in range(3, 12):
            told = case_log(machine, standing, 0, 0)
            self.assertEqual(told, least_by_contents(
                (machine,), len(told), lambda contents, entry: contents[0][0] == standing
                and case_at(machine, contents[0], entry) == 0
            ))
        for kind in types_of(machine):
            told = log_to(machine, kind)
            if told:
                self.assertEqual(told, least_by_search(
                    1, len(told), lambda log: type_of(content_after(machine, log)) == kind
                ))

    def test_room_above_a_new_value_below(self):
        # The third value is below two that must keep room between them, and becomes held.
        machine = filled(3, [
            (("all", (("less", 2, 0), ("less", 0, 1), ("less", 0, -1), ("less", -1, 1))), (-1, 1, 2)),
            (("all", (("less", 0, -1), ("less", -1, 1))), (-1, 1, 2)),
        ])
        self.assertEqual(case_log(machine, 4, 0, 0), zeros(1, 4, 0, 2, 3))

    def test_values_that_are_not_held_any_more_leave_their_room(self):
        # After three rising values only the last one is held, and two are to come below it.
        machine = filled(1, [(ABOVE, (-1,)), (ABOVE, (-1,)), (BELOW, (-1,)), (BELOW, (-1,))])
        self.assertEqual(case_log(machine, 4, 0, 0), zeros(0, 1, 2, 1, 0))

    def test_the_same_as_a_search_of_longer_logs(self):
        compared = 0
        for seed in range(400):
            machine = random_chain(seed, 4)
            last = len(machine[2]) - 1
            for number in range(len(machine[2][last][0])):
                told = case_log(machine, last, 0, number)
                if told is None or len(told) > 8:
                    continue

                def carried_out(contents, entry):
                    return contents[0][0] == last and case_at(machine, contents[0], entry) == number

                self.assertEqual(told, least_by_contents((machine,), len(told), carried_out), (seed, number))
                compared += len(told) >= 4
        self.assertGreater(compared, 80)

    def test_a_search_of_all_logs_finds_no_other_case(self):
        for seed in range(40):
            machine = random_machine(seed, 2, 2, 1, 4)
            for standing, number in itertools.product(range(2), range(4)):
                if number < len(machine[2][standing][0]):
                    told = case_log(machine, standing, 0, number)

                    def carried_out(contents, entry):
                        return contents[0][0] == standing and case_at(machine, contents[0], entry) == number

                    found = least_by_contents((machine,), 5, carried_out)
                    if told is None or len(told) > 5:
                        self.assertIsNone(found)
                    else:
                        self.assertEqual(told, found)


class Relations(unittest.TestCase):

    def test_each_relation_alone(self):
        for condition, wanted in ((BELOW, ("more",)), (ABOVE, ("less",)), (("same", -1, 0), ("same",))):
            machine = (1, 2, (
                (((TRUE, (-1, -2), (), 1),),),
                (((condition, (0, -1), (), 2),),),
                ((),),
                ((),),
            ))
            self.assertEqual(relations(machine, 0, 0, 1), ("empty",))
            self.assertEqual(relations(machine, 1, 0, 1), ("empty",))
            self.assertEqual(relations(machine, 2, 0, 1), wanted)
            self.assertEqual(relations(machine, 3, 0, 1), ())

    def test_the_order_in_which_they_are_told(self):
        self.assertEqual(relations(one_case(TRUE, (-1, 0)), 0, 0, 1), ("empty", "less", "more", "same"))
        # Not all of them: the second one is never greater, or never less.
        self.assertEqual(relations(one_case(TRUE, (-1, 1)), 0, 0, 1), ("empty",))
        low = (1, 2, ((((("empty", 1), (-1, -1), (), 0), (("not", ("less", -1, 1)), (-1, 1), (), 0),
                         (TRUE, (-1, -1), (), 0)),),))
        self.assertEqual(relations(low, 0, 0, 1), ("empty", "more", "same"))
        high = (1, 2, ((((("empty", 1), (-1, -1), (), 0), (("less", -1, 1), (-1, 1), (), 0),
                          (TRUE, (-1, -1), (), 0)),),))
        self.assertEqual(relations(high, 0, 0, 1), ("empty", "less", "same"))

    def test_one_register_or_both_empty(self):
        machine = (1, 3, ((((TRUE, (-1, -2, -1), (), 1),),), ((),)))
        self.assertEqual(relations(machine, 1, 0, 1), ("empty",))
        self.assertEqual(relations(machine, 1, 1, 2), ("empty",))
        self.assertEqual(relations(machine, 1, 0, 2), ("same",))
        self.assertEqual(relations(machine, 0, 0, 2), ("empty",))

    def test_the_same_as_in_the_types(self):
        names = {(True, False): "less", (False, True): "more", (False, False): "same"}
        for seed in range(40):
            machine = random_machine(seed, 3, 3, 2, 4)
            for standing in range(4):
                for one, other in ((0, 1), (0, 2), (1, 2)):
                    found = set()
                    for told, ranks in types_of(machine):
                        if told == standing:
                            low, high = ranks[one], ranks[other]
                            empty = low is None or high is None
                            found.add("empty" if empty else names[(low < high, low > high)])
                    self.assertEqual(relations(machine, standing, one, other), tuple(sorted(found)))


class LeastAmongAll(unittest.TestCase):

    def test_no_lesser_log_of_other_values(self):
        dice = random.Random(4)
        for seed in range(30):
            machine = random_chain(seed)
            kinds = types_of(machine)
            kind = dice.choice(kinds)
            told = log_to(machine, kind)
            for _ in range(60):
                log = zeros(*[dice.randrange(max(len(told), 1)) for _ in told])
                if type_of(content_after(machine, log)) == kind:
                    self.assertLessEqual(told, log)


if __name__ == "__main__":
    unittest.main()
