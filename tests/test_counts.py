"""Point [29]: how many orders there are, and at how many a machine says a tag."""

import itertools
import unittest

from anyvalues.built import band, records, runs, top_list, turning_points
from anyvalues.counts import count_saying, orders
from anyvalues.machines import answers
from anyvalues.orders import tight
from helpers import EXAMPLE, FALSE, TRUE, one_case, random_machine, silent, tight_logs
from oracles import rich_machine


def counted(machine, tag, n):
    """The number, by reading all tight logs."""
    logs = tight_logs(machine[0], n)
    return sum(any(word == tag for word, _ in answers(machine, log)[-1]) for log in logs)


class Orders(unittest.TestCase):

    def test_the_same_as_by_trying_all_rows(self):
        for n in range(7):
            rows = itertools.product(range(n), repeat=n)
            self.assertEqual(orders(n), len({tight([(0, value) for value in row]) for row in rows}))

    def test_known_numbers(self):
        self.assertEqual([orders(n) for n in range(8)], [1, 1, 3, 13, 75, 541, 4683, 47293])
        self.assertEqual(orders(12), 28091567595)

    def test_each_one_from_those_before(self):
        # The entries with the least value are some of them; the others make an order of their own.
        choose = [1]
        for n in range(1, 61):
            choose = [1] + [one + other for one, other in zip(choose, choose[1:])] + [1]
            self.assertEqual(orders(n), sum(choose[k] * orders(n - k) for k in range(1, n + 1)))


class CountSaying(unittest.TestCase):

    def test_simple_machines(self):
        speaks = one_case(TRUE, (), ((3, -1),))
        for n in range(1, 13):
            self.assertEqual(count_saying(speaks, 3, n), orders(n))
            self.assertEqual(count_saying(speaks, 0, n), 0)
            self.assertEqual(count_saying(silent(), 0, n), 0)
            self.assertEqual(count_saying(one_case(FALSE, (), ((0, -1),)), 0, n), 0)

    def test_twice_at_one_entry_and_none(self):
        self.assertEqual(count_saying(one_case(TRUE, (), ((0, -1), (0, -1), (1, -1))), 0, 3), 13)
        self.assertEqual(count_saying(one_case(TRUE, (), ((0, -2),)), 0, 3), 13)
        self.assertEqual(count_saying(one_case(TRUE, (-2,), ((5, 0),)), 5, 4), 75)

    def test_any_tag(self):
        great = 10 ** 40
        self.assertEqual(count_saying(one_case(TRUE, (), ((great, -1),)), great, 2), 3)
        self.assertEqual(count_saying(one_case(TRUE, (), ((great, -1),)), great + 1, 2), 0)

    def test_several_tags_read(self):
        for tags in (1, 2, 3):
            machine = one_case(TRUE, (), ((0, -1),), tags)
            for n in (1, 2, 5, 12):
                self.assertEqual(count_saying(machine, 0, n), tags ** n * orders(n))
        second = (3, 0, (((), ((TRUE, (), ((0, -1),), 0),), ()),))
        self.assertEqual(count_saying(second, 0, 4), 3 ** 3 * 75)

    def test_built_machines(self):
        for machine in (records(), band(), turning_points(), runs(), *[top_list(k) for k in range(1, 7)]):
            for tag in range(4):
                for n in range(1, 6):
                    self.assertEqual(count_saying(machine, tag, n), counted(machine, tag, n))
        for k in range(1, 7):
            for tag in range(7):
                # The list of k has k values once there are as many.
                self.assertEqual(count_saying(top_list(k), tag, 6), 4683 if tag < k else 0)
            self.assertEqual(count_saying(top_list(k), 0, 12), orders(12))

    def test_longest_logs(self):
        # A record at the last of 12 entries: 11 entries of any order, and a greater value.
        self.assertEqual(count_saying(records(), 0, 12), orders(11))
        # A run ends unless the last value is greater than the one before: by exchange as often as less.
        same = orders(11)
        self.assertEqual(count_saying(runs(), 0, 12), (orders(12) - same) // 2 + same)
        self.assertEqual(count_saying(EXAMPLE, 1, 12), orders(11))

    def test_the_same_as_by_reading_all_logs(self):
        for seed in range(60):
            tags = 1 + seed % 2
            machine = rich_machine(seed, 2, seed % 4, tags, 3, 0.5)
            if seed % 3 == 0:
                machine = random_machine(seed, 2, 3, tags, 3)
            for tag in range(3):
                for n in range(1, 5 if tags == 1 else 4):
                    self.assertEqual(count_saying(machine, tag, n), counted(machine, tag, n), (seed, tag, n))


if __name__ == "__main__":
    unittest.main()
