"""Point [41]: groups of machines that are alike."""

import random
import unittest

from anyvalues.alike import parting
from anyvalues.built import band, records, runs, top_list, turning_points
from anyvalues.groups import groups_of
from anyvalues.joining import beside
from anyvalues.least import least_machine
from anyvalues.orders import turned
from anyvalues.spotting import spotter
from anyvalues.trimming import trimmed
from helpers import EXAMPLE, TRUE, made_of_tuples, one_case, random_machine, renamed, silent
from oracles import rich_machine


def slow_groups(machines):
    """The groups, each machine held against the first one of each group."""
    groups = []
    for number, machine in enumerate(machines):
        for group in groups:
            if parting(machines[group[0]], machine) is None:
                group.append(number)
                break
        else:
            groups.append([number])
    return tuple(tuple(group) for group in groups)


class Groups(unittest.TestCase):

    def check(self, machines):
        groups = groups_of(machines)
        self.assertEqual(groups, slow_groups(machines))
        self.assertTrue(made_of_tuples(groups))
        return groups

    def test_none_and_one(self):
        self.assertEqual(groups_of(()), ())
        self.assertEqual(groups_of((records(),)), ((0,),))
        self.assertEqual(groups_of((silent(6),)), ((0,),))

    def test_the_very_same_one(self):
        machine = top_list(3)
        self.assertEqual(groups_of((machine,) * 5), ((0, 1, 2, 3, 4),))
        self.assertEqual(groups_of((runs(), machine, runs(), machine)), ((0, 2), (1, 3)))

    def test_built_ones(self):
        machines = (records(), top_list(1), turned(turned(records())), band(), top_list(2), runs(), turning_points(),
                    least_machine(runs()), beside(records(), silent()), turned(records()))
        groups = self.check(machines)
        self.assertEqual(groups, ((0, 2, 8), (1,), (3,), (4,), (5, 7), (6,), (9,)))

    def test_the_order_of_the_groups_and_in_them(self):
        up, down, same = spotter((0, 1)), spotter((1, 0)), spotter((0, 0))
        self.assertEqual(groups_of((same, down, up, down, same, up, turned(up))), ((0, 4), (1, 3, 6), (2, 5)))
        self.assertEqual(groups_of((up, down, down, up)), ((0, 3), (1, 2)))
        self.assertEqual(groups_of((down, up, turned(down))), ((0,), (1, 2)))

    def test_other_words(self):
        machine = (1, 2, (
            (((TRUE, (-1, 1), (), 1),),),
            (((("less", 0, -1), (0, -1), ((0, 0),), 2), (TRUE, (-1, -1), (), 1)),),
            (((("less", -1, 1), (-1, 0), ((1, 1), (0, -1)), 0),),),
        ))
        others = [renamed(machine, [0, 2, 1], [1, 0]), renamed(machine, [0, 1, 2], [0, 1]),
                  renamed(machine, [0, 1, 2], [1, 0])]
        self.assertEqual(self.check((machine, *others)), ((0, 1, 2, 3),))
        wide = (1, 2, (*machine[2], ((),)))
        self.assertEqual(self.check((wide, EXAMPLE, machine, trimmed(wide))), ((0, 2, 3), (1,)))

    def test_one_case_changed(self):
        first = (("empty", 0), (-1,), ((0, -1),), 0)
        machine = (1, 1, (((first, (("less", 0, -1), (-1,), ((0, -1),), 0)),),))
        changed = [
            (1, 1, (((first, other),),)) for other in (
                (("less", -1, 0), (-1,), ((0, -1),), 0), (("less", 0, -1), (0,), ((0, -1),), 0),
                (("less", 0, -1), (-1,), ((0, 0),), 0), (("less", 0, -1), (-1,), ((1, -1),), 0),
                (("less", 0, -1), (-1,), ((0, -1), (0, -1)), 0), (("less", 0, -1), (-1,), (), 0),
                (("not", ("less", -1, 0)), (-1,), ((0, -1),), 0),
            )
        ]
        self.assertEqual(self.check((machine, *changed, machine)), ((0, 8), *((at,) for at in range(1, 8))))

    def test_a_change_that_shows_late(self):
        def climb(tag):
            steps = [(((TRUE, (-1,), (), 1),),)]
            steps += [(((("less", 0, -1), (-1,), (), at + 2),),) for at in range(15)]
            return (1, 1, (*steps, (((TRUE, (0,), ((tag, -1),), 16),),)))

        self.assertEqual(self.check((climb(0), climb(1), climb(0), climb(2), climb(1))), ((0, 2), (1, 4), (3,)))

    def test_several_tags(self):
        for tags in (2, 3, 6):
            say = lambda tag: (tags, 0, (tuple(((TRUE, (), ((0, -1),), 0),) if at == tag else () for at in range(tags)),))
            machines = [say(tag) for tag in range(tags)] + [silent(tags)] + [say(tag) for tag in range(tags)]
            self.assertEqual(
                self.check(tuple(machines)), (*((at, at + tags + 1) for at in range(tags)), (tags,))
            )

    def test_drawn_ones(self):
        dice = random.Random(1)
        for tags in (1, 2):
            machines = [rich_machine(seed, 2, 2, tags) for seed in range(20)]
            machines += [random_machine(seed, 2, 1, tags, 2) for seed in range(25)]
            machines += [least_machine(machine) for machine in dice.sample(machines, 8)]
            machines += [trimmed(machine) for machine in dice.sample(machines, 6)]
            machines += [one_case(TRUE, (-1,), (), tags), silent(tags)]
            dice.shuffle(machines)
            groups = self.check(tuple(machines))
            self.assertGreater(len(groups), 10)
            self.assertGreater(max(map(len, groups)), 3)
            self.assertGreater(sum(len(group) > 1 for group in groups), 3)


if __name__ == "__main__":
    unittest.main()
