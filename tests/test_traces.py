"""Point [43]: traces."""

import random
import unittest

from anyvalues.built import records, top_list
from anyvalues.machines import answers, beginning, holds, read
from anyvalues.orders import tight
from anyvalues.spotting import spotter
from anyvalues.traces import log_of_spots, spots_along, trace, type_behind
from anyvalues.types import step_of, type_of
from helpers import EXAMPLE, TRUE, content_after, made_of_tuples, random_log, random_machine, silent
from oracles import rich_machine

FAR = 10 ** 3000


def slow_trace(machine, log):
    """The trace by the document's words: the first case that holds, and the spot among the values that are held."""
    told = []
    content = beginning(machine)
    for tag, value in log:
        standing, held = content
        carried_out = [number for number, case in enumerate(machine[2][standing][tag]) if holds(case[0], value, held)]
        values = sorted(set(held) - {None})
        ranks = tuple(None if worth is None else values.index(worth) for worth in held)
        spot = 2 * sum(worth < value for worth in values) + (value in values)
        told.append((carried_out[0] if carried_out else None, (standing, ranks), spot))
        content = read(machine, content, (tag, value))[0]
    return tuple(told)


def machines_with(registers):
    """Machines with so many registers."""
    found = [random_machine(seed, 2, registers, 2, 3) for seed in range(4)]
    if registers:
        found += [rich_machine(seed, 2, registers, 2) for seed in range(4)]
    return found


def drawn_spots(dice, machine, many):
    """A log of spots, drawn along the steps."""
    kind = type_of(beginning(machine))
    spots = []
    for _ in range(many):
        tag = dice.randrange(machine[0])
        spot = dice.randrange(2 * len(set(kind[1]) - {None}) + 1)
        spots.append((tag, spot))
        kind = step_of(machine, kind, tag, spot)[0]
    return tuple(spots)


def log_of(*values):
    return tuple((0, value) for value in values)


# Narrows two held values: a value with the tag 0 becomes the upper one, with the tag 1 the lower one.
NARROWS = (2, 2, (
    (((TRUE, (-1, 1), (), 1),), ()),
    (((("less", 0, -1), (0, -1), (), 2),), ()),
    ((((("all", (("less", 0, -1), ("less", -1, 1)))), (0, -1), ((0, -1),), 2),),
     ((("all", (("less", 0, -1), ("less", -1, 1))), (-1, 1), ((1, -1),), 2),)),
))


class Traces(unittest.TestCase):

    def test_the_empty_log(self):
        for machine in (silent(), EXAMPLE, random_machine(3, 2, 4)):
            self.assertEqual(trace(machine, ()), ())
            self.assertEqual(spots_along(machine, ()), ())
            self.assertEqual(type_behind(machine, ()), (0, (None,) * machine[1]))
            self.assertEqual(log_of_spots(machine, ()), ())

    def test_the_example(self):
        log = ((0, 5), (0, 3), (0, 8), (0, 8))
        told = ((0, (0, (None,)), 0), (None, (0, (0,)), 0), (1, (0, (0,)), 2), (None, (0, (0,)), 1))
        self.assertEqual(trace(EXAMPLE, log), told)
        self.assertEqual(spots_along(EXAMPLE, log), ((0, 0), (0, 0), (0, 2), (0, 1)))
        self.assertEqual(type_behind(EXAMPLE, spots_along(EXAMPLE, log)), (0, (0,)))

    def test_no_case(self):
        self.assertEqual(trace(silent(2), ((1, 4), (0, -4))), ((None, (0, ()), 0),) * 2)
        self.assertEqual(spots_along(silent(2), ((1, 4), (0, -4))), ((1, 0), (0, 0)))

    def test_the_first_case_that_holds(self):
        first = (("less", 0, -1), (-1,), (), 0)
        machine = (1, 1, (((first, (TRUE, (-1,), (), 0), (TRUE, (0,), (), 0)),),))
        self.assertEqual([step[0] for step in trace(machine, log_of(1, 2, 2, 5, 3, 4))], [1, 0, 1, 0, 1, 0])

    def test_spots_among_held_values(self):
        machine = spotter((0, 1, 2, 3))
        log = log_of(10, 20, 30, 25, 30, 25, 5, 99, 25)
        self.assertEqual([spot for _, spot in spots_along(machine, log)], [0, 2, 4, 4, 5, 1, 0, 6, 3])
        self.assertEqual(trace(machine, log)[3], (1, (0, (0, 1, 2)), 4))
        self.assertEqual(trace(machine, log)[5], (1, (0, (1, 0, 1)), 1))

    def test_drawn_logs(self):
        dice = random.Random(7)
        for registers in range(7):
            for machine in machines_with(registers):
                for low, high in ((-2, 3), (-9, 30), (-FAR, FAR)):
                    log = random_log(dice, 2, 25, low, high)
                    told = trace(machine, log)
                    self.assertEqual(told, slow_trace(machine, log))
                    self.assertTrue(made_of_tuples(told))
                    self.assertEqual(told, trace(machine, list(log)))
                    spots = spots_along(machine, log)
                    self.assertTrue(made_of_tuples(spots))
                    self.assertEqual(spots, tuple((tag, step[2]) for (tag, _), step in zip(log, told)))
                    self.assertEqual(spots_along(machine, list(log)), spots)
                    self.assertEqual(type_behind(machine, spots), type_of(content_after(machine, log)))
                    self.assertEqual(trace(machine, tight(log)), told)

    def test_answers_hang_on_tags_and_spots_alone(self):
        dice = random.Random(9)
        for registers in range(5):
            for machine in machines_with(registers):
                log = random_log(dice, 2, 20, -3, 5)
                other = log_of_spots(machine, spots_along(machine, log))
                self.assertEqual(trace(machine, other), trace(machine, log))
                named = [[[told for told, _ in answer] for answer in answers(machine, one)] for one in (log, other)]
                self.assertEqual(named[0], named[1])

    def test_values_of_any_size(self):
        log = log_of(FAR, -FAR, FAR + 1, FAR, -FAR - 1)
        self.assertEqual([spot for _, spot in spots_along(records(), log)], [0, 0, 2, 0, 0])
        self.assertEqual([spot for _, spot in spots_along(top_list(2), log)], [0, 0, 4, 1, 0])


class LogsOfSpots(unittest.TestCase):

    def check(self, machine, spots):
        log = log_of_spots(machine, spots)
        self.assertTrue(made_of_tuples(log))
        self.assertEqual(tight(log), log)
        self.assertEqual(spots_along(machine, log), spots)
        self.assertEqual(type_behind(machine, spots), type_of(content_after(machine, log)))
        kind = type_of(beginning(machine))
        for tag, spot in spots:
            kind = step_of(machine, kind, tag, spot)[0]
        self.assertEqual(type_behind(machine, spots), kind)
        return log

    def test_small_ones(self):
        self.assertEqual(self.check(records(), ((0, 0), (0, 1), (0, 1))), log_of(0, 0, 0))
        self.assertEqual(self.check(records(), ((0, 0), (0, 2), (0, 2))), log_of(0, 1, 2))
        self.assertEqual(self.check(spotter((0, 1, 2)), ((0, 0), (0, 0), (0, 2))), log_of(2, 0, 1))

    def test_drawn_along_the_steps(self):
        dice = random.Random(3)
        for registers in range(7):
            for machine in machines_with(registers):
                for many in (1, 2, 7, 25):
                    self.check(machine, drawn_spots(dice, machine, many))

    def test_narrowing_two_values(self):
        start = ((0, 0), (0, 2))
        dice = random.Random(4)
        for many in (1, 100, 398):
            for tags in ((0,), (1,), (0, 1)):
                spots = start + tuple((dice.choice(tags), 2) for _ in range(many))
                log = self.check(NARROWS, spots)
                self.assertEqual(len({value for _, value in log}), many + 2)

    def test_long_ones(self):
        dice = random.Random(5)
        for machine in (top_list(6), spotter((0, 1, 2, 3, 4)), NARROWS, EXAMPLE, rich_machine(2, 3, 3, 2)):
            self.check(machine, drawn_spots(dice, machine, 400))
        self.check(records(), ((0, 0),) + ((0, 2),) * 399)
        self.check(top_list(2), ((0, 0),) * 2 + ((0, 2),) * 398)


if __name__ == "__main__":
    unittest.main()
