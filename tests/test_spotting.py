"""Point [36]: spotters."""

import itertools
import random
import unittest

from anyvalues.built import records
from anyvalues.joining import behind, beside
from anyvalues.machines import answers, answers_from, check_machine
from anyvalues.orders import turned
from anyvalues.spotting import spotter
from anyvalues.texts import read_machine, write_machine
from helpers import content_after, made_of_tuples, ranks_among

FAR = 10 ** 3000


def patterns_of(many):
    """All patterns of so many ranks."""
    return sorted({ranks_among(values) for values in itertools.product(range(many), repeat=many)})


def drawn(many, number):
    """So many drawn patterns of many ranks, and those that rise, fall and stay the same."""
    dice = random.Random(many)
    some = dice.sample(patterns_of(many), number)
    return some + [tuple(range(many)), tuple(range(many))[::-1], (0,) * many]


PATTERNS = patterns_of(1) + patterns_of(2) + patterns_of(3) + drawn(4, 20) + drawn(5, 20)


def wanted(pattern, values):
    """What is said for the values, by the words of the document."""
    many = len(pattern)
    return tuple(
        ((0, value),) if at + 1 >= many and ranks_among(values[at + 1 - many:at + 1]) == pattern else ()
        for at, value in enumerate(values)
    )


def log_of(values):
    return tuple((0, value) for value in values)


def opposite(pattern):
    return tuple(max(pattern) - rank for rank in pattern)


def lists_for(pattern):
    """Lists of values that have the pattern or do not, in many ways."""
    dice = random.Random(repr(pattern))
    near = [dice.randint(-2, 3) for _ in range(60)]
    put_in = near[:20] + [7 * rank - 9 for rank in pattern] + near[20:40]
    far = [dice.choice((-FAR, FAR, 0, 1, FAR + 1, FAR - 1)) for _ in range(40)]
    return [
        [], [5], list(range(8)), list(range(8))[::-1], [4] * 8, near, put_in,
        list(pattern) * 2, [rank - 3 for rank in pattern] + [rank + 40 for rank in pattern],
        list(pattern) * 4 + list(pattern)[::-1] * 4, [FAR * rank for rank in pattern] * 2, far,
        [-FAR - rank for rank in pattern],
    ]


class Spotters(unittest.TestCase):

    def test_patterns_of_one_to_five_ranks(self):
        self.assertEqual([len(patterns_of(many)) for many in range(1, 6)], [1, 3, 13, 75, 541])
        for pattern in PATTERNS:
            machine = spotter(pattern)
            for values in lists_for(pattern):
                self.assertEqual(answers(machine, log_of(values)), wanted(pattern, values), pattern)

    def test_all_short_lists(self):
        for pattern in patterns_of(2) + patterns_of(3):
            machine = spotter(pattern)
            for values in itertools.product(range(3), repeat=5):
                self.assertEqual(answers(machine, log_of(values)), wanted(pattern, values), pattern)

    def test_the_pattern_is_spotted_at_its_last_entry(self):
        for pattern in PATTERNS:
            many = len(pattern)
            values = [10 * rank - 15 for rank in pattern]
            said = ((0, values[-1]),)
            self.assertEqual(answers(spotter(pattern), log_of(values)), ((),) * (many - 1) + (said,))

    def test_fewer_entries_than_the_pattern_has(self):
        for pattern in PATTERNS:
            for length in range(len(pattern)):
                self.assertEqual(answers(spotter(pattern), log_of(pattern[:length])), ((),) * length)

    def test_one_rank_is_spotted_at_every_entry(self):
        values = (3, 3, -FAR, FAR, 0)
        self.assertEqual(answers(spotter((0,)), log_of(values)), tuple(((0, value),) for value in values))

    def test_overlapping_ones(self):
        self.assertEqual(answers(spotter((0, 1, 0)), log_of((2, 5, 2, 5, 2))), ((), (), ((0, 2),), (), ((0, 2),)))
        self.assertEqual(answers(spotter((0, 0)), log_of((4, 4, 4))), ((), ((0, 4),), ((0, 4),)))
        self.assertEqual(answers(spotter((0, 1)), log_of((1, 2, 3))), ((), ((0, 2),), ((0, 3),)))

    def test_what_comes_before_plays_no_part(self):
        dice = random.Random(5)
        for pattern in PATTERNS:
            machine = spotter(pattern)
            values = [dice.randint(0, 4) for _ in range(len(pattern) - 1)] + list(pattern)
            told = set()
            for _ in range(5):
                before = [dice.randint(-3, 8) for _ in range(dice.randrange(10))]
                told.add(answers(machine, log_of(before + values))[len(before) + len(pattern) - 1:])
            self.assertEqual(len(told), 1)

    def test_long_logs(self):
        dice = random.Random(8)
        values = [dice.randint(0, 2) for _ in range(400)]
        for pattern in ((0, 1, 2), (1, 0, 1, 0), (2, 0, 1, 0, 2), (0, 0, 0, 0, 0)):
            self.assertEqual(answers(spotter(pattern), log_of(values)), wanted(pattern, values))
        climbing = list(range(400))
        self.assertEqual(sum(map(len, answers(spotter((0, 1, 2, 3, 4)), log_of(climbing)))), 396)
        self.assertEqual(sum(map(len, answers(spotter((4, 3, 2, 1, 0)), log_of(climbing)))), 0)


class AsMachines(unittest.TestCase):

    def test_right_and_made_of_tuples(self):
        for pattern in PATTERNS:
            machine = spotter(pattern)
            self.assertIsNone(check_machine(machine))
            self.assertTrue(made_of_tuples(machine))
            self.assertEqual(machine[0], 1)
            self.assertLessEqual(len(machine[2]), 40)
            self.assertLessEqual(machine[1], 6)
            self.assertEqual(read_machine(write_machine(machine)), machine)

    def test_turned_it_spots_the_opposite(self):
        for pattern in PATTERNS:
            machine = turned(spotter(pattern))
            for values in lists_for(pattern) + [list(opposite(pattern)) * 3]:
                self.assertEqual(answers(machine, log_of(values)), wanted(opposite(pattern), values), pattern)

    def test_joined(self):
        dice = random.Random(2)
        values = [dice.randint(0, 3) for _ in range(200)]
        for one, other in (((0, 1), (1, 0, 2)), ((0, 0), (0, 1, 0)), ((0,), (0, 1, 1)), ((2, 1, 0), (0, 1))):
            told, also = wanted(one, values), wanted(other, values)
            both = tuple(first + second for first, second in zip(told, also))
            self.assertEqual(answers(beside(spotter(one), spotter(other)), log_of(values)), both)
            passed_on = [value for value, said in zip(values, told) if said]
            read = iter(wanted(other, passed_on))
            through = tuple(next(read) if said else () for said in told)
            self.assertEqual(answers(behind(spotter(one), spotter(other)), log_of(values)), through)
        peaks = behind(records(), spotter((0, 1, 2)))
        self.assertEqual(answers(peaks, log_of((1, 0, 4, 2, 9, 9, 10))), ((), (), (), (), ((0, 9),), (), ((0, 10),)))

    def test_read_on_from_a_content(self):
        machine = spotter((1, 0, 1))
        content = content_after(machine, log_of((8, 3, 1)))
        self.assertEqual(answers_from(machine, content, log_of((3, 1, 3))), (((0, 3),), (), ((0, 3),)))


if __name__ == "__main__":
    unittest.main()
