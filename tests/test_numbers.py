"""Point [38]: numbered logs."""

import itertools
import random
import unittest

from anyvalues.counts import orders
from anyvalues.numbers import log_of_number, number_of_log
from anyvalues.orders import tight
from helpers import made_of_tuples


def log_of(values):
    return tuple((0, value) for value in values)


def tight_ones(many):
    """All tight logs of so many entries with the tag 0, found among all rows of values."""
    rows = itertools.product(range(max(many, 1)), repeat=many)
    return sorted(log_of(row) for row in rows if len(set(row)) == max(row, default=-1) + 1)


class ShortLogs(unittest.TestCase):

    def test_all_logs_in_ascending_order(self):
        for many in range(6):
            logs = tight_ones(many)
            self.assertEqual(len(logs), orders(many))
            self.assertEqual([log_of_number(many, number) for number in range(len(logs))], logs)
            self.assertEqual([number_of_log(log) for log in logs], list(range(len(logs))))

    def test_the_empty_log(self):
        self.assertEqual(log_of_number(0, 0), ())
        self.assertEqual(number_of_log(()), 0)

    def test_some_by_hand(self):
        self.assertEqual(log_of_number(1, 0), ((0, 0),))
        self.assertEqual([log_of_number(2, number) for number in range(3)],
                         [((0, 0), (0, 0)), ((0, 0), (0, 1)), ((0, 1), (0, 0))])
        self.assertEqual(number_of_log(log_of((2, 0, 1))), 11)
        self.assertEqual(log_of_number(3, 11), log_of((2, 0, 1)))


class LongLogs(unittest.TestCase):

    def test_the_first_and_the_last_one(self):
        for many in range(41):
            last = orders(many) - 1
            self.assertEqual(log_of_number(many, 0), log_of((0,) * many))
            self.assertEqual(log_of_number(many, last), log_of(reversed(range(many))))
            self.assertEqual(number_of_log(log_of((0,) * many)), 0)
            self.assertEqual(number_of_log(log_of(reversed(range(many)))), last)

    def test_there_and_back(self):
        dice = random.Random(3)
        for many in (8, 17, 30, 40):
            for _ in range(8):
                number = dice.randrange(orders(many))
                log = log_of_number(many, number)
                self.assertTrue(made_of_tuples(log))
                self.assertEqual(tight(log), log)
                self.assertEqual(len(log), many)
                self.assertEqual(number_of_log(log), number)
                drawn = tight(log_of([dice.randint(0, dice.choice((2, 9, 40))) for _ in range(many)]))
                self.assertEqual(log_of_number(many, number_of_log(drawn)), drawn)

    def test_neighbours_ascend(self):
        dice = random.Random(5)
        for many in (6, 12, 40):
            for _ in range(6):
                number = dice.randrange(orders(many) - 3)
                logs = [log_of_number(many, number + more) for more in range(4)]
                self.assertEqual(sorted(logs), logs)
                self.assertEqual(len(set(logs)), 4)

    def test_nothing_lies_between_neighbours(self):
        # Of logs of four entries all rows of values between two neighbours are tried.
        rows = [log_of(row) for row in itertools.product(range(4), repeat=4)]
        for number in range(orders(4) - 1):
            low, high = log_of_number(4, number), log_of_number(4, number + 1)
            self.assertEqual([row for row in rows if low < row < high and tight(row) == row], [])

    def test_the_log_that_is_passed_stays(self):
        log = [(0, 1), (0, 0), (0, 1)]
        self.assertEqual(number_of_log(log), number_of_log(tuple(log)))
        self.assertEqual(log, [(0, 1), (0, 0), (0, 1)])


if __name__ == "__main__":
    unittest.main()
