"""Point [33]: built machines."""

import itertools
import random
import unittest

from anyvalues.alike import parting
from anyvalues.built import band, records, runs, top_list, turning_points
from anyvalues.joining import behind, beside
from anyvalues.machines import answers, check_machine
from anyvalues.orders import turned
from anyvalues.texts import read_machine, write_machine
from oracles import at_once

FAR = 10 ** 60
LISTS = (
    (), (5,), (1, 2, 3, 4), (4, 3, 2, 1), (7, 7, 7), (-3, -9, -1, -1, 0), (3, 1, 2, 3, 1, 2), (0, FAR, -FAR, FAR, 0),
    (1, 3, 3, 2), (2, 1, 1, 2), (1, 1, 2, 2, 1, 1), (5, 6, 7, 1, 2, 0, 9, 9, 10),
)


def log_of(values):
    return tuple((0, value) for value in values)


def wanted_records(values):
    return [((0, value),) if all(before < value for before in values[:at]) else () for at, value in enumerate(values)]


def wanted_top(k):
    def wanted(values):
        return [tuple(enumerate(sorted(values[:at + 1], reverse=True)[:k])) for at in range(len(values))]

    return wanted


def wanted_band(values):
    told, last = [], None
    for at in range(len(values)):
        now = (min(values[:at + 1]), max(values[:at + 1]))
        told.append(() if now == last else ((0, now[0]), (1, now[1])))
        last = now
    return told


def wanted_turning_points(values):
    told = [()] * min(2, len(values))
    for before, value, behind_it in zip(values, values[1:], values[2:]):
        if before < value > behind_it:
            told.append(((0, value),))
        elif before > value < behind_it:
            told.append(((1, value),))
        else:
            told.append(())
    return told


def wanted_runs(values):
    told, first, last = [], None, None
    for value in values:
        ends = last is not None and value <= last
        told.append(((0, first),) if ends else ())
        first = value if ends or last is None else first
        last = value
    return told


BUILT = [
    (records(), wanted_records), (band(), wanted_band), (turning_points(), wanted_turning_points), (runs(), wanted_runs),
    *[(top_list(k), wanted_top(k)) for k in range(1, 7)],
]


class Built(unittest.TestCase):

    def test_over_told_values(self):
        for machine, wanted in BUILT:
            for values in LISTS:
                self.assertEqual(answers(machine, log_of(values)), tuple(wanted(values)), values)

    def test_over_all_short_logs(self):
        for machine, wanted in BUILT:
            for length in range(6):
                for values in itertools.product(range(4), repeat=length):
                    self.assertEqual(answers(machine, log_of(values)), tuple(wanted(values)), values)

    def test_over_long_logs(self):
        dice = random.Random(3)
        for machine, wanted in BUILT:
            for high in (1, 3, 10, 10 ** 20):
                values = [dice.randint(-high, high) for _ in range(120)]
                self.assertEqual(answers(machine, log_of(values)), tuple(wanted(values)))

    def test_some_answers_word_by_word(self):
        self.assertEqual(answers(records(), log_of((2, 2, 5))), (((0, 2),), (), ((0, 5),)))
        self.assertEqual(answers(top_list(2), log_of((2, 5, 5))), (((0, 2),), ((0, 5), (1, 2)), ((0, 5), (1, 5))))
        self.assertEqual(answers(top_list(1), log_of((2, 1))), (((0, 2),), ((0, 2),)))
        self.assertEqual(answers(band(), log_of((2, 2, 5))), (((0, 2), (1, 2)), (), ((0, 2), (1, 5))))
        self.assertEqual(answers(turning_points(), log_of((1, 2, 1, 3))), ((), (), ((0, 2),), ((1, 1),)))
        self.assertEqual(answers(runs(), log_of((1, 2, 2, 1))), ((), (), ((0, 1),), ((0, 2),)))

    def test_their_form(self):
        def tuples_alone(value):
            if isinstance(value, tuple):
                return all(tuples_alone(part) for part in value)
            return type(value) in (int, str)

        for machine, _ in BUILT:
            self.assertIsNone(check_machine(machine))
            self.assertEqual(machine[0], 1)
            self.assertLessEqual(len(machine[2]), 40)
            self.assertTrue(tuples_alone(machine))

    def test_written_and_turned(self):
        dice = random.Random(4)
        for machine, wanted in BUILT:
            self.assertEqual(read_machine(write_machine(machine)), machine)
            for _ in range(10):
                values = [dice.randint(-3, 3) for _ in range(12)]
                told = answers(turned(machine), log_of([-value for value in values]))
                self.assertEqual(told, tuple(tuple((tag, -value) for tag, value in said) for said in wanted(values)))

    def test_joined(self):
        dice = random.Random(5)
        for one, wanted in BUILT[:6]:
            for other, wanted_too in BUILT[:6]:
                values = [dice.randint(-3, 3) for _ in range(14)]
                log = log_of(values)
                both = [said + also for said, also in zip(wanted(values), wanted_too(values))]
                self.assertEqual(answers(beside(one, other), log), tuple(both))
                read_on = [[value for tag, value in said if tag == 0] for said in wanted(values)]
                told = at_once(wanted_too([value for part in read_on for value in part]), [len(part) for part in read_on])
                self.assertEqual(answers(behind(one, other), log), told)

    def test_they_are_not_alike(self):
        for at, (one, _) in enumerate(BUILT):
            for other, _ in BUILT[:at]:
                self.assertIsNotNone(parting(one, other))


if __name__ == "__main__":
    unittest.main()
