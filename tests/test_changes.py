"""Points [39] and [40]: changes of logs that matter, and values that fall."""

import random
import unittest

from anyvalues.built import band, records, runs, top_list, turning_points
from anyvalues.changes import doubling_matters, dropping_matters, falling, swapping_matters
from anyvalues.machines import answers
from anyvalues.orders import turned
from anyvalues.spotting import spotter
from helpers import (
    EXAMPLE, FALSE, TRUE, made_of_tuples, one_case, random_chain, random_machine, renamed, silent, tight_logs,
)
from oracles import rich_machine, talking_machine

HUGE = 10 ** 3000
ABOVE = ("less", 0, -1)


def doubled(log, index):
    return log[:index + 1] + log[index:]


def dropped(log, index):
    return log[:index] + log[index + 1:]


def swapped(log, index):
    return log[:index] + (log[index + 1], log[index]) + log[index + 2:]


# For each change: the function, how the log is changed, how many entries are, and how far those behind move.
CHANGES = {
    "doubling": (doubling_matters, doubled, 1, 1),
    "dropping": (dropping_matters, dropped, 1, -1),
    "swapping": (swapping_matters, swapped, 2, 0),
}


def shows(machine, change, witness):
    """True if the witness shows that the change matters to the machine."""
    _, changed, many, moved = CHANGES[change]
    log, index, at = witness
    if not 0 <= index <= index + many <= at < len(log) or min(value for _, value in log) < 0:
        return False
    return answers(machine, log)[at] != answers(machine, changed(log, index))[at + moved]


def slow_witness(machine, change, longest):
    """A log of at most this length and an index at which the change matters, or None."""
    _, changed, many, moved = CHANGES[change]
    for length in range(longest + 1):
        for log in tight_logs(machine[0], length):
            told = answers(machine, log)
            for index in range(length + 1 - many):
                behind = index + many
                if told[behind:] != answers(machine, changed(log, index))[behind + moved:]:
                    return (log, index)
    return None


# Says the first two values at the second entry.
FIRST_TWO = (1, 2, (((
    (("empty", 0), (-1, 1), ((0, -1),), 0),
    (("empty", 1), (0, -1), ((0, 0), (0, -1)), 0),
    (TRUE, (0, 1), (), 0),
),),))

# Says the last value at an entry with the tag 1, and holds the values with the tag 0.
LAST = (2, 1, ((((TRUE, (-1,), (), 0),), ((TRUE, (0,), ((0, 0),), 0),)),))


def late(many):
    """A machine that says its first value only after so many more entries."""
    steps = [(((TRUE, (-1,), (), 1),),)]
    steps += [(((TRUE, (0,), (), at + 2),),) for at in range(many)]
    steps.append((((TRUE, (0,), ((0, 0),), many + 1),),))
    return (1, 1, tuple(steps))


def waits(many):
    """A machine at which the order of the first two entries shows only after so many more entries, each above."""
    rise = ("less", 1, -1)
    steps = [(((TRUE, (-1, -1), (), 1),),), (((TRUE, (0, -1), (), 2),),)]
    steps += [(((rise, (0, -1), (), at + 3),),) for at in range(many)]
    steps.append((((rise, (0, -1), ((0, 0),), many + 2),),))
    return (1, 2, tuple(steps))


class Matters(unittest.TestCase):

    def check(self, machine, longest):
        """Which changes matter, each of them held against a slow search."""
        found = []
        for change, (function, _, _, _) in CHANGES.items():
            witness = function(machine)
            if witness is None:
                self.assertIsNone(slow_witness(machine, change, longest), (machine, change))
                continue
            self.assertTrue(made_of_tuples(witness))
            self.assertTrue(shows(machine, change, witness), (machine, change, witness))
            found.append(change)
        return found

    def test_to_whom_none_matters(self):
        self.assertEqual(self.check(silent(), 4), [])
        self.assertEqual(self.check(silent(2), 3), [])
        self.assertEqual(self.check(one_case(TRUE, (), ((0, -1), (3, -2))), 4), [])
        self.assertEqual(self.check(one_case(TRUE, (-1, 0), ((0, -1),), 2), 3), [])
        # What it holds is never said.
        self.assertEqual(self.check(one_case(ABOVE, (-1,)), 4), [])
        # Its two standings say the same.
        self.assertEqual(self.check((1, 0, ((((TRUE, (), ((0, -1),), 1),),), (((TRUE, (), ((0, -1),), 0),),))), 4), [])

    def test_to_whom_some_matter(self):
        self.assertEqual(self.check(records(), 5), ["dropping"])
        self.assertEqual(self.check(EXAMPLE, 5), ["dropping"])
        self.assertEqual(self.check(turned(records()), 5), ["dropping"])
        self.assertEqual(self.check(band(), 5), ["dropping"])
        self.assertEqual(self.check(top_list(1), 4), ["dropping"])
        self.assertEqual(self.check(top_list(2), 5), ["doubling", "dropping"])
        self.assertEqual(self.check(top_list(3), 4), ["doubling", "dropping"])
        self.assertEqual(self.check(FIRST_TWO, 4), ["doubling", "dropping"])
        self.assertEqual(self.check(LAST, 3), ["dropping", "swapping"])
        self.assertEqual(self.check(runs(), 4), ["doubling", "dropping", "swapping"])
        self.assertEqual(self.check(turning_points(), 4), ["doubling", "dropping", "swapping"])
        # It counts entries: swapping them changes nothing.
        counter = (1, 0, ((((TRUE, (), (), 1),),), (((TRUE, (), ((0, -1),), 0),),)))
        self.assertEqual(self.check(counter, 4), ["doubling", "dropping"])
        # It holds the last value alone, which a doubled entry leaves as it is.
        self.assertEqual(self.check(spotter((0, 0)), 4), ["dropping", "swapping"])
        self.assertEqual(self.check(spotter((0, 0, 0)), 4), ["doubling", "dropping", "swapping"])

    def test_changes_that_come_at_once(self):
        for machine in (top_list(2), spotter((0, 1)), LAST):
            for change, (function, _, many, _) in CHANGES.items():
                witness = function(machine)
                if witness is not None:
                    log, index, at = witness
                    self.assertGreaterEqual(at, index + many)
                    self.assertGreaterEqual(len(log), at + 1)

    def test_a_difference_that_shows_several_entries_later(self):
        for many in (1, 4, 9):
            self.assertEqual(self.check(late(many), 3), ["doubling", "dropping", "swapping"])
            self.assertEqual(self.check(waits(many), 3), ["doubling", "dropping", "swapping"])
            log, index, at = swapping_matters(late(many))
            self.assertEqual((index, at), (0, many + 1))
        log, index, at = doubling_matters(spotter((0, 2, 1, 3, 4)))
        self.assertGreater(at, 3)

    def test_differences_in_none_in_tags_and_in_number(self):
        full = ("not", ("empty", 0))
        # The second entry is answered by another tag, by None, or by one entry more.
        for said in (((1, -1),), ((0, -2),), ((0, -1), (0, -1)), ()):
            machine = (1, 1, ((((full, (0,), said, 0), (TRUE, (-1,), ((0, -1),), 0)),),))
            self.assertEqual(self.check(machine, 4), ["dropping"])
        # The source is empty at the first entry and not at the next one.
        machine = one_case(("empty", 0), (-1,), ((0, 0),))
        self.assertEqual(self.check(machine, 4), ["dropping"])
        self.assertEqual(self.check(one_case(TRUE, (-1,), ((0, 0),)), 4), ["dropping", "swapping"])
        self.assertEqual(self.check(one_case(TRUE, (-1,), ((HUGE, 0),)), 3), ["dropping", "swapping"])

    def test_swapped_entries_with_different_tags(self):
        # The tag of the last entry but one is all that counts.
        machine = (2, 0, (
            (((TRUE, (), ((0, -1),), 0),), ((TRUE, (), ((0, -1),), 1),)),
            (((TRUE, (), ((1, -1),), 0),), ((TRUE, (), ((1, -1),), 1),)),
        ))
        self.assertEqual(self.check(machine, 3), ["dropping", "swapping"])
        log, index, _ = swapping_matters(machine)
        self.assertNotEqual(log[index][0], log[index + 1][0])
        # The first value with each tag is held: only entries with one tag can be swapped so that it shows.
        first = ("all", (("empty", 0),))
        machine = (2, 1, ((((first, (-1,), (), 0), (TRUE, (0,), ((0, 0),), 0)), ((TRUE, (0,), (), 0),)),))
        self.assertEqual(self.check(machine, 3), ["dropping", "swapping"])
        log, index, _ = swapping_matters(machine)
        self.assertEqual(log[index][0], log[index + 1][0])

    def test_drawn_machines(self):
        counted = {}
        for seed in range(20):
            for machine, longest in (
                (random_machine(seed, 2, 1, 1, 3), 5), (random_machine(seed, 2, 2, 1, 3), 4),
                (random_machine(seed, 2, 1, 2, 2), 3), (rich_machine(seed, 2, 1), 5), (rich_machine(seed, 1, 2), 4),
                (talking_machine(seed, 2, 1, 3), 4), (random_chain(seed), 4),
            ):
                for change in self.check(machine, longest) or ["none"]:
                    counted[change] = counted.get(change, 0) + 1
        self.assertGreater(min(counted.values()), 15, counted)
        self.assertEqual(len(counted), 4)

    def test_the_same_for_the_same_machine_in_other_words(self):
        for seed in range(15):
            machine = rich_machine(seed, 2, 2)
            many = len(machine[2])
            other = renamed(machine, [0, *reversed(range(1, many))], [1, 0])
            self.assertEqual(self.check(machine, 3), self.check(other, 3))


def falls_at(machine, log, tag):
    """The first entry of the log at which the values said with the tag fall, or None."""
    last = None
    for at, answer in enumerate(answers(machine, log)):
        fallen = False
        for told, value in answer:
            if told == tag and value is not None:
                fallen = fallen or last is not None and value < last
                last = value
        if fallen:
            return at
    return None


def slow_falling(machine, tag, longest):
    """The least log of at most this length at whose last entry the values fall, or None."""
    for length in range(1, longest + 1):
        for log in tight_logs(machine[0], length):
            if falls_at(machine, log, tag) == length - 1:
                return log
    return None


def log_of(*values):
    return tuple((0, value) for value in values)


def echo(*says):
    """A machine that says all this at every entry, and holds the last value and the one before."""
    return one_case(TRUE, (-1, 0), says)


class Falling(unittest.TestCase):

    def test_at_different_entries(self):
        self.assertEqual(falling(echo((0, -1)), 0), log_of(1, 0))
        self.assertEqual(falling(echo((0, 0)), 0), log_of(1, 0, 0))
        self.assertEqual(falling(echo((0, 1)), 0), log_of(1, 0, 0, 0))
        self.assertEqual(falling(runs(), 0), log_of(1, 0, 0))
        self.assertEqual(falling(turned(records()), 0), log_of(1, 0))

    def test_within_one_answer(self):
        self.assertEqual(falling(echo((0, 0), (0, -1)), 0), log_of(1, 0))
        self.assertEqual(falling(echo((0, -1), (0, 0)), 0), log_of(0, 1))
        self.assertEqual(falling(echo((3, 0), (3, 1), (0, -1)), 3), log_of(0, 1, 0))
        self.assertEqual(falling(band(), 1), None)
        # Both values, the lesser one first: between two answers the values fall.
        both = ((("less", 0, -1), (0, -1), ((0, 0), (0, -1)), 0), (TRUE, (-1, -1), (), 0))
        self.assertEqual(falling((1, 2, ((both,),)), 0), log_of(0, 1, 1))

    def test_none_between_plays_no_part(self):
        self.assertEqual(falling(echo((0, -1), (0, -2)), 0), log_of(1, 0))
        self.assertEqual(falling(echo((0, -2), (0, 0), (0, -2), (0, -1), (0, -2)), 0), log_of(1, 0))
        # A register that is empty says None.
        machine = (1, 1, (
            (((TRUE, (0,), ((0, -1), (0, 0)), 1),),), (((TRUE, (-1,), ((0, 0),), 2),),), (((TRUE, (0,), ((0, 0),), 2),),),
        ))
        self.assertEqual(falling(machine, 0), log_of(1, 0, 0))

    def test_another_value_between(self):
        # The read value, then the greatest one: it falls behind the greatest one alone.
        machine = (1, 1, (((
            (("any", (("empty", 0), ("less", 0, -1))), (-1,), ((0, -1), (0, -1)), 0), (TRUE, (0,), ((0, 0), (0, 0)), 0),
        ),),))
        self.assertIsNone(falling(machine, 0))
        # What is said with another tag is no value between, and is not compared.
        self.assertEqual(falling(echo((0, -1), (1, 0), (1, -1)), 0), log_of(1, 0))
        first = ("empty", 0)
        lower = (("less", -1, 0), (-1,), ((1, -1),), 0)
        self.assertIsNone(falling((1, 1, ((((first, (-1,), ((0, -1),), 0), lower),),)), 0))
        self.assertEqual(falling((1, 1, ((((first, (-1,), ((0, -1),), 0), lower),),)), 1), log_of(2, 1, 0))
        up = (("less", 0, -1), (-1, 0), ((0, -1),), 0)
        self.assertIsNone(falling((1, 2, (((up, (("empty", 0), (-1, 0), (), 0)),),)), 0))

    def test_never(self):
        for machine in (silent(), echo(), echo((1, -1)), echo((0, -2)), one_case(FALSE, (-1,), ((0, -1),))):
            self.assertIsNone(falling(machine, 0))
        once = (1, 0, ((((TRUE, (), ((0, -1),), 1),),), ((),)))
        self.assertIsNone(falling(once, 0))
        self.assertIsNone(falling(records(), 0))
        self.assertIsNone(falling(records(), HUGE))
        self.assertIsNone(falling(top_list(3), 0))
        # The same value again and again.
        first = (1, 1, ((((("empty", 0), (-1,), ((0, -1),), 0), (TRUE, (0,), ((0, 0),), 0)),),))
        self.assertIsNone(falling(first, 0))
        self.assertIsNone(falling(echo((0, 0), (0, 0)), 1))

    def test_huge_tags(self):
        self.assertEqual(falling(echo((HUGE, -1)), HUGE), log_of(1, 0))
        self.assertIsNone(falling(echo((HUGE, -1)), HUGE - 1))

    def test_two_tags_that_are_read(self):
        # Values with the tag 1 are said, at the next entry.
        self.assertEqual(falling(LAST, 0), ((0, 1), (1, 0), (0, 0), (1, 0)))
        machine = (2, 0, (((), ((TRUE, (), ((0, -1),), 0),)),))
        self.assertEqual(falling(machine, 0), ((1, 1), (1, 0)))
        both = one_case(TRUE, (), ((0, -1),), 2)
        self.assertEqual(falling(both, 0), ((0, 1), (0, 0)))

    def test_behind_a_long_climb_alone(self):
        for many in (5, 15, 30):
            steps = [(((TRUE, (-1,), (), 1),),)]
            steps += [(((ABOVE, (-1,), (), at + 2),),) for at in range(many)]
            steps.append((((TRUE, (-1,), ((0, -1),), many + 1),),))
            machine = (1, 1, tuple(steps))
            self.assertEqual(falling(machine, 0), log_of(*range(many + 1), 1, 0))
            # Only values that fall from the top of the climb are said.
            steps[-1] = (((("less", -1, 0), (-1,), ((0, -1),), many + 1),),)
            self.assertEqual(falling((1, 1, tuple(steps)), 0), log_of(*range(many), max(many, 2), 1, 0))

    def test_drawn_machines(self):
        counted = {}
        for seed in range(40):
            for machine, longest in (
                (random_machine(seed, 2, 1, 1, 3), 5), (random_machine(seed, 2, 2, 1, 3), 5),
                (random_machine(seed, 2, 1, 2, 2), 3), (rich_machine(seed, 2, 1), 5), (rich_machine(seed, 1, 2), 5),
                (talking_machine(seed, 2, 3, 3, 1, 2), 4), (random_chain(seed), 5),
            ):
                for tag in (0, 1):
                    log = falling(machine, tag)
                    if log is None or len(log) > longest:
                        self.assertIsNone(slow_falling(machine, tag, longest))
                    else:
                        self.assertEqual(log, slow_falling(machine, tag, longest), machine)
                    if log is not None:
                        self.assertTrue(made_of_tuples(log))
                        self.assertEqual(falls_at(machine, log, tag), len(log) - 1)
                    length = None if log is None else len(log)
                    counted[length] = counted.get(length, 0) + 1
        self.assertGreater(len(counted), 5, counted)


if __name__ == "__main__":
    unittest.main()
