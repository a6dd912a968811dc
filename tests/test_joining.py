"""Points [30] to [32]: machines beside and behind one another."""

import random
import unittest

from anyvalues.alike import parting
from anyvalues.built import band, records, runs, top_list, turning_points
from anyvalues.joining import behind, beside
from anyvalues.least import least_machine
from anyvalues.machines import answers, answers_from, check_machine, read
from anyvalues.orders import turned
from anyvalues.texts import read_machine, write_machine
from helpers import EXAMPLE, FALSE, TRUE, one_case, random_log, random_machine, silent
from oracles import read_behind, read_beside, rich_machine, some_content, talking_machine

EMPTY = ("empty", 0)
BELOW = ("less", -1, 0)
ABOVE = ("less", 0, -1)

# Says of each value that it came, whether it is less than the value before (0), the same (1) or greater (2).
COMPARES = (1, 1, ((((BELOW, (-1,), ((0, -1), (0, 0)), 0), (ABOVE, (-1,), ((2, -1), (2, 0)), 0),
                     (TRUE, (-1,), ((1, 0),), 0)),),))
# Reads several tags and says what it read last, by the tags.
ECHO = (3, 1, (tuple(((TRUE, (-1,), ((tag, -1), (7, 0)), 0),) for tag in range(3)),))


def together(one, other, content, another):
    """The content of the joined machine that is put together of both."""
    return (content[0] * len(other[2]) + another[0], content[1] + another[1])


class Joined(unittest.TestCase):

    def check(self, joined, one, other, reading, dice, many=40):
        """The joined machine is right and does the same as both from contents of any kind."""
        self.assertIsNone(check_machine(joined))
        self.assertEqual(joined[0], one[0])
        self.assertEqual(joined[1], one[1] + other[1])
        self.assertEqual(len(joined[2]), len(one[2]) * len(other[2]))
        for _ in range(many):
            content, another = some_content(dice, one), some_content(dice, other)
            for _ in range(3):
                entry = (dice.randrange(one[0]), dice.randrange(-1, 7))
                before = together(one, other, content, another)
                content, another, said = reading(one, content, other, another, entry)
                told = read(joined, before, entry)
                self.assertEqual(told, (together(one, other, content, another), said))

    def check_each_content(self, joined, one, other, reading):
        """The same for all contents with a few values."""
        for standing in range(len(one[2])):
            for its in range(len(other[2])):
                for held in some_helds(one[1] + other[1]):
                    content, another = (standing, held[:one[1]]), (its, held[one[1]:])
                    before = together(one, other, content, another)
                    for value in (-1, 0, 1, 2):
                        mine, its_too, said = reading(one, content, other, another, (0, value))
                        told = read(joined, before, (0, value))
                        self.assertEqual(told, (together(one, other, mine, its_too), said))


def some_helds(registers):
    found = [()]
    for _ in range(registers):
        found = [held + (value,) for held in found for value in (None, 0, 1)]
    return found


class Beside(Joined):

    def test_simple_ones(self):
        both = beside(records(), EXAMPLE)
        self.assertEqual(answers(both, ((0, 5), (0, 3), (0, 8))),
                         (((0, 5), (0, 5)), (), ((0, 8), (0, 8), (1, 5))))
        self.assertEqual(answers(beside(silent(), silent()), ((0, 1), (0, 2))), ((), ()))
        self.check_each_content(both, records(), EXAMPLE, read_beside)

    def test_a_machine_beside_itself(self):
        dice = random.Random(1)
        for machine in (EXAMPLE, silent(2), COMPARES, top_list(3), random_machine(1, 3, 2, 2, 4)):
            self.check(beside(machine, machine), machine, machine, read_beside, dice)

    def test_standings_and_registers(self):
        one = (1, 2, (((), ), (((TRUE, (1, -1), ((0, 0),), 0),),), (((EMPTY, (0, 1), (), 1),),)))
        other = (1, 0, ((((TRUE, (), ((1, -1),), 1),),), (((TRUE, (), (), 0),),)))
        both = beside(one, other)
        self.assertEqual(len(both[2]), 6)
        self.assertEqual(read(both, (2, (3, 4)), (0, 9)), ((1, (4, 9)), ((0, 3), (1, 9))))
        self.assertEqual(read(both, (5, (None, 4)), (0, 9)), ((2, (None, 4)), ()))
        self.assertEqual(read(both, (0, (3, 4)), (0, 9)), ((1, (3, 4)), ((1, 9),)))
        back = beside(other, one)
        self.assertEqual(read(back, (1, (3, 4)), (0, 9)), ((3, (4, 9)), ((1, 9), (0, 3))))

    def test_one_of_both_has_no_case_that_holds(self):
        quiet = one_case(FALSE, (-1,), ((5, -1),))
        for one, other in ((quiet, EXAMPLE), (EXAMPLE, quiet), (quiet, quiet), (silent(), COMPARES), (COMPARES, silent())):
            self.check_each_content(beside(one, other), one, other, read_beside)
        two = ((FALSE, (-1,), ((5, -1),), 0), (BELOW, (-1,), ((6, 0),), 0), (TRUE, (0,), ((7, -1),), 0),
               (ABOVE, (-1,), ((8, 0),), 0))
        machine = (1, 1, ((two,),))
        self.check_each_content(beside(machine, COMPARES), machine, COMPARES, read_beside)
        self.check_each_content(beside(COMPARES, machine), COMPARES, machine, read_beside)

    def test_any_machines(self):
        dice = random.Random(2)
        for seed in range(60):
            tags = 1 + seed % 3
            one = random_machine(seed, 1 + seed % 3, seed % 4, tags, 3)
            other = rich_machine(seed + 50, 2, (seed + 1) % 3, tags, 3)
            self.check(beside(one, other), one, other, read_beside, dice, 15)

    def test_the_same_for_the_same_two(self):
        for seed in range(10):
            one, other = random_machine(seed, 2, 2, 2, 3), random_machine(seed + 1, 1, 3, 2, 3)
            first = beside(one, other)
            beside(other, one)
            self.assertEqual(beside(one, other), first)
            first = behind(one, other)
            behind(other, one)
            self.assertEqual(behind(one, other), first)

    def test_nothing_is_raised_by_beside_itself(self):
        # Who joins them sees to it that both read the same number of tags.
        beside(silent(2), silent(2))

    def test_joined_again(self):
        dice = random.Random(3)
        one, other, third = records(), runs(), turned(EXAMPLE)
        left, right = beside(beside(one, other), third), beside(one, beside(other, third))
        self.assertIsNone(parting(left, right))
        for _ in range(20):
            log = random_log(dice, 1, 20, -4, 4)
            apart = [answers(machine, log) for machine in (one, other, third)]
            self.assertEqual(answers(left, log), tuple(a + b + c for a, b, c in zip(*apart)))


class Behind(Joined):

    def test_simple_ones(self):
        # The runs of the records.
        log = tuple((0, value) for value in (5, 3, 8, 8, 9))
        self.assertEqual(answers(behind(records(), COMPARES), log),
                         (((1, None),), (), ((2, 8), (2, 5)), (), ((2, 9), (2, 8))))
        self.assertEqual(answers(behind(silent(), COMPARES), log), ((),) * 5)
        self.assertEqual(answers(behind(COMPARES, silent()), log), ((),) * 5)
        self.check_each_content(behind(records(), COMPARES), records(), COMPARES, read_behind)
        self.check_each_content(behind(EXAMPLE, EXAMPLE), EXAMPLE, EXAMPLE, read_behind)

    def test_what_is_left_out(self):
        # The tag 3 and None are not read; the second machine stays as it is.
        says = one_case(TRUE, (-2, 1), ((3, -1), (0, -2), (1, 0), (2, -1), (0, 1), (10 ** 30, -1)))
        joined = behind(says, ECHO)
        self.assertEqual(joined[0], 1)
        self.assertEqual(read(joined, (0, (None, None, 5)), (0, 8)), ((0, (None, None, 8)), ((2, 8), (7, 5))))
        self.assertEqual(read(joined, (0, (4, 6, 5)), (0, 8)),
                         ((0, (None, 6, 6)), ((1, 4), (7, 5), (2, 8), (7, 4), (0, 6), (7, 8))))
        self.check_each_content(joined, says, ECHO, read_behind)
        nothing = one_case(TRUE, (-1,), ((0, -2), (5, -1)))
        joined = behind(nothing, COMPARES)
        self.assertEqual(read(joined, (0, (1, 2)), (0, 8)), ((0, (8, 2)), ()))
        self.check_each_content(joined, nothing, COMPARES, read_behind)

    def test_numbers_of_tags(self):
        two = (2, 0, (
            (((TRUE, (), ((0, -1), (1, -1)), 0),), ((TRUE, (), ((2, -1),), 0),)),
        ))
        dice = random.Random(4)
        for other in (silent(), COMPARES, ECHO, records(), random_machine(5, 2, 2, 3, 3)):
            joined = behind(two, other)
            self.assertEqual(joined[0], 2)
            self.check(joined, two, other, read_behind, dice)
            self.assertEqual(behind(other, two)[0], other[0])
            self.check(behind(other, two), other, two, read_behind, dice)
        self.assertEqual(answers(behind(two, ECHO), ((0, 4), (1, 5))), (((0, 4), (7, None), (1, 4), (7, 4)), ((2, 5), (7, 4))))
        self.assertEqual(answers(behind(two, COMPARES), ((0, 4), (1, 5))), (((1, None),), ()))

    def test_sources_are_taken_before_anything_changes(self):
        # The first machine moves what it says away; the second one exchanges its registers.
        one = one_case(TRUE, (1, -1), ((0, 0), (0, 1), (0, -1)))
        other = (1, 2, ((((("less", 0, 1), (1, -1), ((0, 0), (0, 1), (1, -1)), 0),
                          (TRUE, (-1, 0), ((2, 1), (2, 0), (3, -1)), 0)),),))
        self.assertEqual(read(behind(one, other), (0, (5, 6, 1, 2)), (0, 9)), (
            (0, (6, 9, 6, 9)),
            ((0, 1), (0, 2), (1, 5), (0, 2), (0, 5), (1, 6), (0, 5), (0, 6), (1, 9)),
        ))
        self.check_each_content(behind(one, other), one, other, read_behind)

    def test_the_same_value_said_twice(self):
        one = one_case(TRUE, (0,), ((0, -1), (0, -1), (0, 0), (0, 0), (0, -1)))
        joined = behind(one, COMPARES)
        self.assertEqual(read(joined, (0, (4, 4)), (0, 4)), ((0, (4, 4)), ((1, 4),) * 5))
        self.assertEqual(read(joined, (0, (None, 4)), (0, 3)), ((0, (None, 3)), ((0, 3), (0, 4), (1, 3), (1, 3))))
        self.check_each_content(joined, one, COMPARES, read_behind)

    def test_several_at_once(self):
        dice = random.Random(5)
        for many in (6, 8):
            one = one_case(TRUE, (-1, 0, 1, 2), tuple((0, at % 5 - 1) for at in range(many)))
            for other in (records(), COMPARES, runs(), turned(records()), top_list(1)):
                self.check(behind(one, other), one, other, read_behind, dice, 60)
            for seed in range(12):
                one = talking_machine(seed, 2 + seed % 3, many, 2, 1, 3)
                other = rich_machine(seed, 1, 1 + seed % 2, 1 + seed % 3, 3, 0.6)
                self.check(behind(one, other), one, other, read_behind, dice, 20)
        both = behind(top_list(6), ECHO)
        log = tuple((0, value) for value in (3, 1, 4, 1, 5, 9, 2, 6))
        told = answers(both, log)[-1]
        self.assertEqual(told, ((0, 9), (7, 4), (1, 6), (7, 9), (2, 5), (7, 6)))

    def test_any_machines(self):
        dice = random.Random(6)
        for seed in range(80):
            one = random_machine(seed, 1 + seed % 3, seed % 4, 1 + seed % 3, 3, 3)
            other = rich_machine(seed + 50, 2, (seed + 1) % 3, 1 + seed % 2, 3)
            self.check(behind(one, other), one, other, read_behind, dice, 15)
            self.check(behind(other, one), other, one, read_behind, dice, 15)

    def test_conditions_of_many_parts(self):
        dice = random.Random(7)
        deep = BELOW
        for _ in range(18):
            deep = ("not", ("any", (deep, ("all", (ABOVE, ("same", 0, -1))))))
        wide = ("any", tuple(("all", (ABOVE, ("empty", 0))) for _ in range(99)) + (("same", -1, 0), EMPTY))
        one = (1, 1, ((((deep, (-1,), ((0, 0), (0, -1)), 0), (wide, (-1,), ((0, -1), (0, 0)), 0)),),))
        for other in (COMPARES, one, EXAMPLE):
            self.check(behind(one, other), one, other, read_behind, dice)
            self.check(behind(other, one), other, one, read_behind, dice)
            self.check(beside(one, other), one, other, read_beside, dice)

    def test_three_machines_either_way(self):
        dice = random.Random(8)
        for seed in range(50):
            one = rich_machine(seed, 1, 2, 1 + seed % 2, 3, 0.9)
            other = random_machine(seed + 1, 2, 2, 2, 3)
            third = talking_machine(seed, 2, 2, 3, 2, 2)
            left, right = behind(behind(one, other), third), behind(one, behind(other, third))
            for _ in range(6):
                log = random_log(dice, one[0], 14, -3, 3)
                self.assertEqual(answers(left, log), answers(right, log))
                content, another, last = some_content(dice, one), some_content(dice, other), some_content(dice, third)
                start = together(other, third, another, last)
                start = together(one, behind(other, third), content, start)
                self.assertEqual(answers_from(left, start, log), answers_from(right, start, log))
        for one, other, third in ((records(), band(), runs()), (band(), turning_points(), COMPARES),
                                  (COMPARES, COMPARES, COMPARES)):
            self.assertIsNone(parting(behind(behind(one, other), third), behind(one, behind(other, third))))

    def test_passed_on(self):
        # The records of the records are the records; from the second entry on, the band is of two values.
        self.assertIsNone(parting(behind(records(), records()), records()))
        self.assertEqual(least_machine(behind(records(), records())), least_machine(records()))
        many = records()
        for _ in range(30):
            many = behind(many, records())
        self.assertEqual(many[1], 31)
        log = tuple((0, value) for value in (5, 3, 8, 8, 9))
        self.assertEqual(answers(many, log), answers(records(), log))
        self.assertIsNone(parting(behind(top_list(2), records()), records()))
        self.assertEqual(read_machine(write_machine(behind(band(), runs()))), behind(band(), runs()))
        self.assertIsNone(parting(turned(behind(records(), COMPARES)), behind(turned(records()), turned(COMPARES))))


if __name__ == "__main__":
    unittest.main()
