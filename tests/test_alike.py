"""Points [18] to [21]: parting logs, lots, guards, what a machine can say."""

import random
import unittest

from anyvalues.alike import (
    judge, judge_under, parting, parting_under, saying, speaking_alone, told_lot, told_lot_under,
)
from anyvalues.machines import answers
from anyvalues.orders import tight, turned
from helpers import (
    EXAMPLE, FALSE, TRUE, between, filled, joints_by_search, least_by_contents, one_case, random_chain,
    random_machine, said_at, silent,
)

BELOW = ("less", -1, 0)
ABOVE = ("less", 0, -1)

# Says each value that is greater than all before it.
RECORDS = (1, 1, ((((("any", (("empty", 0), ABOVE)), (-1,), ((0, -1),), 0),),),))
# The same with two standings, the second register, and one that plays no part.
RECORDS_TOO = (1, 3, (
    (((TRUE, (-1, -1, -2), ((0, -1),), 1),),),
    (((("not", ("any", (("less", -1, 1), ("same", 1, -1)))), (0, -1, -1), ((0, -1),), 1), (TRUE, (2, 1, 0), (), 1)),),
))
# Says each value that is not less than all before it.
NOT_LESS = (1, 1, ((((("not", BELOW), (-1,), ((0, -1),), 0),),),))


def zeros(*values):
    """A log of these values with the tag 0."""
    return tuple((0, value) for value in values)


def speaker(*words):
    """A machine with one tag that speaks (says the value) at those entries, by number, at which the word is 1."""
    last = len(words) - 1
    return (1, 0, tuple(
        (((TRUE, (), ((0, -1),) * word, min(at + 1, last)),),) for at, word in enumerate(words)
    ))


def parts(before, entry, machines):
    """True if the last two machines say different things."""
    said = said_at(machines, before, entry)
    return said[-2] != said[-1]


class Parting(unittest.TestCase):

    def test_alike_in_other_words(self):
        self.assertIsNone(parting(RECORDS, RECORDS_TOO))
        self.assertIsNone(parting(RECORDS_TOO, RECORDS))
        self.assertIsNone(parting(one_case(TRUE, (-1, 0), ((0, 1),)), one_case(TRUE, (1, -1), ((0, 0),))))
        self.assertIsNone(parting(silent(), one_case(FALSE, (-1, 0, 1), ((0, -1),))))
        self.assertIsNone(parting(silent(2), (2, 1, ((((TRUE, (-1,), (), 0),), ()),))))
        # A said value that is the same as another one held.
        self.assertIsNone(parting(one_case(("same", 0, -1), (0,), ((0, -1),)), one_case(("same", 0, -1), (0,), ((0, 0),))))

    def test_a_machine_and_itself(self):
        for seed in range(40):
            machine = random_machine(seed, 3, 2, 2, 4)
            self.assertIsNone(parting(machine, machine))
        self.assertIsNone(parting(EXAMPLE, EXAMPLE))

    def test_early_and_late(self):
        self.assertEqual(parting(silent(), one_case(TRUE, (), ((0, -1),))), zeros(0))
        self.assertEqual(parting(RECORDS, NOT_LESS), zeros(0, 0))
        self.assertEqual(parting(RECORDS, EXAMPLE), zeros(0, 1))
        self.assertEqual(parting(RECORDS, turned(RECORDS)), zeros(0, 1))
        for many in (1, 5, 38):
            low = filled(1, [(BELOW, (-1,))] * many)
            self.assertEqual(parting(low, silent()), zeros(*range(many, -1, -1)))
            middle = filled(2, [(between(0, 1), (-1, 1))] * many)
            self.assertEqual(parting(silent(), middle), zeros(0, many + 1, *range(1, many + 1)))

    def test_none_and_values_and_tags_and_order_part(self):
        said = [(), ((0, -1),), ((0, -2),), ((1, -1),), ((0, -1), (1, -1)), ((1, -1), (0, -1)), ((0, -1), (0, -1))]
        for one in said:
            for other in said:
                told = parting(one_case(TRUE, (), one), one_case(TRUE, (), other))
                self.assertEqual(told, None if one == other else zeros(0))

    def test_the_same_tag_is_read(self):
        one = (2, 0, (((), ((TRUE, (), ((0, -1),), 0),)),))
        self.assertEqual(parting(one, silent(2)), ((1, 0),))

    def test_the_machines_exchanged(self):
        for seed in range(60):
            one, other = random_machine(seed, 2, 2, 1, 3), random_machine(seed + 1, 2, 3, 1, 3)
            self.assertEqual(parting(one, other), parting(other, one))

    def test_the_same_as_a_search(self):
        for seed in range(120):
            tags = 1 + seed % 2
            one = random_machine(seed, 2, seed % 3, tags, 3, 1)
            other = random_machine(seed + 500, 2, 2, tags, 3, 1)
            self.compare((one, other), parting(one, other), 5 - tags)

    def test_the_same_as_a_search_of_longer_logs(self):
        late = 0
        for seed in range(250):
            one, other = random_chain(seed), random_chain(seed + 1, 4)
            told = parting(one, other)
            if told is not None and len(told) <= 7:
                self.compare((one, other), told, len(told))
                late += len(told) >= 4
        self.assertGreater(late, 10)

    def compare(self, machines, told, longest):
        found = least_by_contents(machines, longest, lambda before, entry: parts(before, entry, machines))
        if told is not None and len(told) <= longest:
            self.assertEqual(told, found)
            one, other = [answers(machine, told) for machine in machines]
            self.assertEqual(one[:-1], other[:-1])
            self.assertNotEqual(one, other)
            self.assertEqual(tight(told), told)
        else:
            self.assertIsNone(found)

    def test_what_is_asked_before_plays_no_part(self):
        pairs = [(random_chain(seed), random_chain(seed + 1)) for seed in range(10)]
        first = [parting(one, other) for one, other in pairs]
        self.assertEqual([parting(one, other) for one, other in reversed(pairs)], first[::-1])


class Lots(unittest.TestCase):

    def test_told_lots(self):
        self.assertEqual(told_lot(silent(), silent()), ((0, 0, ()),))
        self.assertEqual(told_lot(RECORDS, RECORDS), ((0, 0, (None, None)), (0, 0, (0, 0))))
        self.assertEqual(told_lot(RECORDS, RECORDS_TOO), (
            (0, 0, (None,) * 4), (0, 1, (0, 0, 0, None)), (0, 1, (0, None, 0, 0)), (0, 1, (1, 0, 1, 1)),
            (0, 1, (1, 1, 1, 0)),
        ))

    def test_none_if_not_alike(self):
        self.assertIsNone(told_lot(RECORDS, NOT_LESS))
        self.assertIsNone(told_lot(RECORDS, silent()))
        for seed in range(60):
            one, other = random_machine(seed, 2, 2, 2, 3), random_machine(seed + 1, 2, 2, 2, 3)
            self.assertEqual(told_lot(one, other) is None, parting(one, other) is not None)

    def test_order_of_the_told_lot(self):
        for seed in range(60):
            machine = random_machine(seed, 3, 2, 2, 4)
            self.assertEqual(told_lot(machine, machine), joints_by_search((machine, machine))[0])
        for seed in range(20):
            quiet = one_case(("less", 0, 1), (-1, 0), (), 2)
            other = (2, 2, tuple(
                tuple(tuple((case[0], case[1], (), case[3]) for case in cases) for cases in standing)
                for standing in random_machine(seed, 2, 2, 2, 4)[2]
            ))
            self.assertEqual(told_lot(quiet, other), joints_by_search((quiet, other))[0])

    def test_a_told_lot_is_right(self):
        self.assertIs(judge(RECORDS, RECORDS_TOO, told_lot(RECORDS, RECORDS_TOO)), True)
        for seed in range(40):
            machine = random_machine(seed, 3, 2, 2, 4)
            lot = told_lot(machine, machine)
            self.assertIs(judge(machine, machine, lot), True)
            self.assertIs(judge(machine, machine, lot[::-1]), True)

    def test_lots_without_one_or_with_one_twice(self):
        lot = told_lot(RECORDS, RECORDS_TOO)
        for at in range(len(lot)):
            self.assertIs(judge(RECORDS, RECORDS_TOO, lot[:at] + lot[at + 1:]), False)
            self.assertIs(judge(RECORDS, RECORDS_TOO, lot + lot[at:at + 1]), True)
        self.assertIs(judge(RECORDS, RECORDS_TOO, ()), False)
        self.assertIs(judge(silent(), silent(), ()), False)
        self.assertIs(judge(silent(), silent(), ((0, 0, ()),)), True)
        self.assertIs(judge(silent(), silent(), ((0, 0, ()),) * 3), True)

    def test_lots_with_one_more(self):
        lot = told_lot(RECORDS, RECORDS)
        # From the one the machines answer differently, from the other one not, but what follows is in the lot.
        self.assertIs(judge(RECORDS, RECORDS, lot + ((0, 0, (0, 1)),)), False)
        self.assertIs(judge(RECORDS, RECORDS, lot + ((0, 0, (None, 0)),)), False)
        constant = one_case(TRUE, (-1, 0), ((0, -1),))
        lot = ((0, 0, (None, None)), (0, 0, (0, None)), (0, 0, (1, 0)), (0, 0, (0, 0)), (0, 0, (0, 1)))
        self.assertEqual(set(told_lot(constant, one_case(TRUE, (), ((0, -1),)))), set(lot))
        self.assertIs(judge(constant, one_case(TRUE, (), ((0, -1),)), lot), True)
        self.assertIs(judge(constant, one_case(TRUE, (), ((0, -1),)), lot + ((0, 0, (None, 0)),)), True)
        # What follows one more is not in the lot.
        idle = (1, 1, (((),), (((TRUE, (-1,), (), 2),),), ((),)))
        self.assertIs(judge(idle, silent(), ((0, 0, (None,)),)), True)
        self.assertIs(judge(idle, silent(), ((0, 0, (None,)), (1, 0, (None,)))), False)
        self.assertIs(judge(idle, silent(), ((0, 0, (None,)), (1, 0, (None,)), (2, 0, (0,)))), True)
        self.assertIs(judge(idle, silent(), ((1, 0, (None,)), (2, 0, (0,)))), False)

    def test_no_lot_is_right_for_machines_that_part(self):
        for seed in range(60):
            machines = (random_machine(seed, 2, 1, 1, 3), random_machine(seed + 1, 2, 1, 1, 3))
            lot, parted = joints_by_search(machines)
            self.assertIs(judge(*machines, lot), not parted)

    def test_each_answer_and_each_step_is_looked_at(self):
        machine = (2, 1, (
            (((TRUE, (-1,), (), 1),), ()),
            ((), ((ABOVE, (0,), ((0, -1),), 0), (TRUE, (0,), (), 0))),
        ))
        quiet = (2, 1, (machine[2][0], ((), ((TRUE, (0,), (), 0),))))
        self.assertIs(judge(machine, quiet, joints_by_search((machine, quiet))[0]), False)
        lot = told_lot(machine, machine)
        for at in range(len(lot)):
            self.assertIs(judge(machine, machine, lot[:at] + lot[at + 1:]), False)

    def test_a_lot_of_other_machines(self):
        lot = told_lot(RECORDS_TOO, RECORDS_TOO)
        self.assertIs(judge(RECORDS, RECORDS, lot), False)
        lot = told_lot(RECORDS, RECORDS)
        self.assertIs(judge(RECORDS, RECORDS, lot), True)
        for joint in ((0, 7, (0, 0)), (0, 1, (0, 0)), (1, 0, (0, 0)), (-1, 0, (0, 0)), (0, -1, (0, 0)),
                      (0, 0, (0,)), (0, 0, (0, 0, 0)), (0, 0, ()), (0, (0, 0)), (0, 0, 0, (0, 0)), (0, 0, (1, 1)),
                      (0, 0, (0, 2))):
            self.assertIs(judge(RECORDS, RECORDS, lot + (joint,)), False, joint)

    def test_a_lot_is_not_changed(self):
        lot = told_lot(RECORDS, RECORDS_TOO)
        kept = tuple(lot)
        judge(RECORDS, RECORDS_TOO, lot)
        self.assertEqual(lot, kept)
        self.assertIs(type(lot), tuple)
        hash(lot)


class Guards(unittest.TestCase):

    def test_a_guard_that_says_nothing_ever(self):
        for seed in range(30):
            one, other = random_machine(seed, 2, 2, 1, 3), random_machine(seed + 1, 2, 2, 1, 3)
            self.assertEqual(parting_under(silent(), one, other), parting(one, other))
            lot = told_lot_under(silent(), one, other)
            plain = told_lot(one, other)
            self.assertEqual(lot, None if plain is None else tuple((0, *joint) for joint in plain))
        self.assertEqual(parting_under(silent(), RECORDS, NOT_LESS), zeros(0, 0))

    def test_a_guard_that_speaks_at_once(self):
        guard = one_case(TRUE, (), ((5, -2),))
        self.assertIsNone(parting_under(guard, RECORDS, silent()))
        self.assertEqual(told_lot_under(guard, RECORDS, silent()), ((0, 0, 0, (None,)),))
        self.assertIs(judge_under(guard, RECORDS, silent(), ((0, 0, 0, (None,)),)), True)
        self.assertIs(judge_under(guard, RECORDS, silent(), ()), False)
        # Steps that are let by are looked at from what cannot come about, too: here there are none.
        self.assertIs(judge_under(guard, RECORDS, silent(), ((0, 0, 0, (None,)), (0, 0, 0, (0,)))), True)

    def test_a_guard_that_speaks_later(self):
        # The machines part at the third entry, at which the guard speaks or does not.
        one, other = speaker(0, 0, 1), speaker(0)
        self.assertEqual(parting(one, other), zeros(0, 0, 0))
        self.assertEqual(parting_under(speaker(0, 0, 0, 1), one, other), zeros(0, 0, 0))
        self.assertIsNone(parting_under(speaker(0, 0, 1), one, other))
        self.assertIsNone(parting_under(speaker(0, 1, 0), one, other))
        self.assertEqual(told_lot_under(speaker(0, 1, 0), one, other), ((0, 0, 0, ()), (1, 1, 0, ())))
        self.assertIsNone(told_lot_under(speaker(0, 0, 0, 1), one, other))

    def test_a_guard_that_speaks_at_some_entries(self):
        # Only values that rise are let by: then all of them are records, and not less than those before.
        guard = (1, 1, ((((("any", (("empty", 0), ABOVE)), (-1,), (), 0), (TRUE, (0,), ((0, 0),), 0)),),))
        always = one_case(TRUE, (), ((0, -1),))
        self.assertIsNone(parting_under(guard, RECORDS, NOT_LESS))
        self.assertIsNone(parting_under(guard, RECORDS, always))
        self.assertEqual(parting_under(guard, RECORDS, EXAMPLE), zeros(0, 1))
        lot = told_lot_under(guard, RECORDS, always)
        self.assertEqual(lot, ((0, 0, 0, (None, None)), (0, 0, 0, (0, 0))))
        self.assertIs(judge_under(guard, RECORDS, always, lot), True)
        self.assertIs(judge(RECORDS, always, ((0, 0, (None,)), (0, 0, (0,)))), False)

    def test_a_lot_needs_what_follows_where_the_guard_is_silent_alone(self):
        # Under the guard tag 1 is not let by; what the machines do there plays no part.
        guard = (2, 0, (((), ((TRUE, (), ((0, -1),), 0),)),))
        one = (2, 0, ((((TRUE, (), (), 1),), ((TRUE, (), ((0, -1),), 2),)), ((), ()), ((), ())))
        lot = told_lot_under(guard, one, silent(2))
        self.assertEqual(lot, ((0, 0, 0, ()), (0, 1, 0, ())))
        self.assertIs(judge_under(guard, one, silent(2), lot), True)
        self.assertIs(judge_under(guard, one, silent(2), lot + lot), True)
        self.assertIs(judge_under(guard, one, silent(2), lot[:1]), False)
        self.assertIs(judge_under(guard, one, silent(2), lot[1:]), False)
        self.assertIs(judge_under(silent(2), one, silent(2), lot), False)
        self.assertEqual(parting(one, silent(2)), ((1, 0),))
        self.assertIsNone(parting_under(guard, one, silent(2)))

    def test_room_that_the_guard_asks_for(self):
        # The guard lets falling values by alone, so the first value leaves room for the third one.
        guard = (1, 1, ((((("any", (("empty", 0), BELOW)), (-1,), (), 0), (TRUE, (0,), ((0, 0),), 0)),),))
        self.assertEqual(parting_under(guard, speaker(0, 0, 1), silent()), zeros(2, 1, 0))
        self.assertEqual(parting(speaker(0, 0, 1), silent()), zeros(0, 0, 0))

    def test_the_same_as_a_search(self):
        parted = 0
        for seed in range(150):
            tags = 1 + seed % 2
            guard = random_machine(seed + 900, 2, 1 + seed % 2, tags, 2, 1)
            machines = (guard, random_machine(seed, 2, 1, tags, 3, 1), random_machine(seed + 1, 1, 2, tags, 3, 1))
            told = parting_under(*machines)
            longest = 5 - tags
            found = least_by_contents(
                machines, longest, lambda before, entry: parts(before, entry, machines),
                lambda before, entry: said_at(machines[:1], before, entry) == [()],
            )
            self.assertEqual(told if told is not None and len(told) <= longest else None, found)
            lot, differ = joints_by_search(machines, True)
            self.assertEqual(told is not None, differ)
            self.assertEqual(told_lot_under(*machines), None if differ else lot)
            self.assertIs(judge_under(*machines, lot), not differ)
            parted += differ
        self.assertGreater(parted, 20)

    def test_random_lots_without_one(self):
        for seed in range(60):
            guard, machine = random_machine(seed + 900, 2, 1, 1, 2, 1), random_machine(seed, 2, 2, 1, 4)
            row = (guard, machine, machine)
            lot = told_lot_under(*row)
            for at in range(len(lot)):
                # Each one but the first is found by a step from one before it, which is still in the lot.
                self.assertIs(judge_under(*row, lot[:at] + lot[at + 1:]), False)


class Sayings(unittest.TestCase):

    def test_at_once_late_and_never(self):
        self.assertEqual(saying(EXAMPLE, 0), zeros(0))
        self.assertEqual(saying(EXAMPLE, 1), zeros(0, 1))
        self.assertIsNone(saying(EXAMPLE, 2))
        self.assertIsNone(saying(silent(), 0))
        self.assertEqual(saying(filled(1, [(BELOW, (-1,))] * 39, 4), 4), zeros(*range(39, -1, -1)))
        self.assertIsNone(saying(filled(1, [(BELOW, (-1,))] * 39, 4), 0))

    def test_with_none_alone(self):
        self.assertEqual(saying(one_case(TRUE, (), ((3, -2),)), 3), zeros(0))
        self.assertEqual(saying(one_case(TRUE, (-2,), ((3, 0),)), 3), zeros(0))

    def test_one_of_several_said(self):
        machine = one_case(("same", 0, -1), (-1,), ((0, -1), (10 ** 70, 0), (2, -1)))
        machine = (1, 1, (((machine[2][0][0][0], (TRUE, (-1,), (), 0)),),))
        for tag in (0, 2, 10 ** 70):
            self.assertEqual(saying(machine, tag), zeros(0, 0))
        self.assertIsNone(saying(machine, 1))

    def test_a_case_that_cannot_come_about(self):
        machine = (1, 1, ((((("less", 0, 0), (-1,), ((0, -1),), 0),),), (((TRUE, (-1,), ((0, -1),), 0),),)))
        self.assertIsNone(saying(machine, 0))

    def test_speaking_alone(self):
        always = one_case(TRUE, (), ((9, -2),))
        self.assertEqual(speaking_alone(always, silent()), zeros(0))
        self.assertIsNone(speaking_alone(silent(), always))
        self.assertIsNone(speaking_alone(RECORDS, always))
        self.assertEqual(speaking_alone(always, RECORDS), zeros(0, 0))
        self.assertEqual(speaking_alone(NOT_LESS, RECORDS), zeros(0, 0))
        self.assertIsNone(speaking_alone(RECORDS, NOT_LESS))
        self.assertEqual(speaking_alone(turned(RECORDS), RECORDS), zeros(1, 0))
        self.assertEqual(speaking_alone(speaker(0, 0, 0, 0, 1), speaker(1, 1, 1, 1, 0)), zeros(0, 0, 0, 0, 0))

    def test_answers_may_differ_before(self):
        self.assertEqual(speaking_alone(speaker(0, 1), speaker(1, 0)), zeros(0, 0))
        self.assertIsNone(speaking_alone(one_case(TRUE, (), ((0, -1),)), one_case(TRUE, (), ((1, -2), (1, -2)))))

    def test_a_machine_against_itself(self):
        for seed in range(30):
            machine = random_machine(seed, 3, 2, 2, 4)
            self.assertIsNone(speaking_alone(machine, machine))

    def test_the_same_as_a_search(self):
        for seed in range(120):
            tags = 1 + seed % 2
            machines = (random_machine(seed, 2, 2, tags, 3, 1), random_machine(seed + 1, 2, 1, tags, 3, 1))
            longest = 5 - tags
            for tag in (0, 1):
                told = saying(machines[0], tag)
                found = least_by_contents(
                    machines[:1], longest,
                    lambda before, entry: tag in [pair[0] for pair in said_at(machines[:1], before, entry)[0]],
                )
                self.assertEqual(told if told is not None and len(told) <= longest else None, found)
            told = speaking_alone(*machines)

            def alone(before, entry):
                one, other = said_at(machines, before, entry)
                return one != () and other == ()

            found = least_by_contents(machines, longest, alone)
            self.assertEqual(told if told is not None and len(told) <= longest else None, found)

    def test_long_logs(self):
        for seed in range(200):
            machine = random_chain(seed, 4)
            told = saying(machine, 0)
            if told is not None and len(told) <= 8:
                self.assertEqual(told, least_by_contents(
                    (machine,), len(told), lambda before, entry: said_at((machine,), before, entry) != [()]
                ))


class Unchanged(unittest.TestCase):

    def test_arguments_stay_as_they_are(self):
        dice = random.Random(6)
        for seed in range(10):
            machines = [random_machine(dice.randrange(1000), 2, 2, 1, 3) for _ in range(3)]
            kept = tuple(machines)
            parting(*machines[:2])
            parting_under(*machines)
            told_lot(*machines[:2])
            speaking_alone(*machines[:2])
            self.assertEqual(tuple(machines), kept)


if __name__ == "__main__":
    unittest.main()
