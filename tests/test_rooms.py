"""Points [26] to [28]: parting logs from given contents, and roomy lots."""

import random
import unittest
from unittest import mock

from anyvalues.machines import answers_from
from anyvalues.rooms import judge_rooms, parting_from, told_rooms
from helpers import EXAMPLE, TRUE, between, filled, one_case, random_machine, silent
from oracles import at_least, rich_machine, room_chain, roomy_type, slow_judge_rooms, slow_parting_from

BELOW = ("less", -1, 0)
ABOVE = ("less", 0, -1)

# Says something only below the held value, between the two, above it, or where it is the same.
SAYS_BELOW = one_case(BELOW, (0,), ((0, -1),))
SAYS_BETWEEN = one_case(between(0, 1), (0, 1), ((0, -1),))
SAYS_ABOVE = one_case(ABOVE, (0,), ((0, -1),))
SILENT = silent()
NOTHING = (0, ())


def zeros(*values):
    """A log of these values with the tag 0."""
    return tuple((0, value) for value in values)


class PartingFrom(unittest.TestCase):

    def test_room_below_the_least_value(self):
        self.assertIsNone(parting_from(SAYS_BELOW, (0, (0,)), SILENT, NOTHING))
        for value in (1, 2, 10 ** 40):
            self.assertEqual(parting_from(SAYS_BELOW, (0, (value,)), SILENT, NOTHING), zeros(0))
        # Each value is below the one before.
        down = filled(1, [(BELOW, (-1,))] * 6)
        for value in (0, 3, 5):
            self.assertIsNone(parting_from(down, (1, (value,)), SILENT, NOTHING))
        for value in (6, 7, 50):
            self.assertEqual(parting_from(down, (1, (value,)), SILENT, NOTHING), zeros(5, 4, 3, 2, 1, 0))

    def test_room_between_values(self):
        for low in (0, 7, 10 ** 30):
            self.assertIsNone(parting_from(SAYS_BETWEEN, (0, (low, low)), SILENT, NOTHING))
            self.assertIsNone(parting_from(SAYS_BETWEEN, (0, (low, low + 1)), SILENT, NOTHING))
            self.assertIsNone(parting_from(SAYS_BETWEEN, (0, (low + 9, low)), SILENT, NOTHING))
            for high in (low + 2, low + 9, low + 10 ** 50):
                self.assertEqual(parting_from(SAYS_BETWEEN, (0, (low, high)), SILENT, NOTHING), zeros(low + 1))
        for many in (3, 12, 38):
            up = filled(2, [(between(0, 1), (-1, 1))] * many)
            self.assertIsNone(parting_from(up, (2, (5, 5 + many)), SILENT, NOTHING))
            told = parting_from(up, (2, (5, 6 + many)), SILENT, NOTHING)
            self.assertEqual(told, zeros(*range(6, 6 + many)))
            self.assertEqual(parting_from(up, (2, (5, 10 ** 60)), SILENT, NOTHING), told)
        # Bisected: the room on both sides of a value counts.
        both = filled(3, [(between(0, 2), (0, -1, 2)), (between(0, 1), (0, 1, 2)), (between(1, 2), (0, 1, 2))])
        self.assertIsNone(parting_from(both, (3, (0, 3, 3)), SILENT, NOTHING))
        self.assertEqual(parting_from(both, (3, (0, 3, 4)), SILENT, NOTHING), zeros(2, 1, 3))

    def test_above_all_there_is_no_end(self):
        for value in (0, 5, 10 ** 30):
            self.assertEqual(parting_from(SAYS_ABOVE, (0, (value,)), SILENT, NOTHING), zeros(value + 1))
        # A value above leaves as much room below it as one likes.
        machine = filled(2, [(("less", 1, -1), (1, -1)), (between(0, 1), (-1, 1)), (between(0, 1), (-1, 1))])
        self.assertEqual(parting_from(machine, (2, (3, 4)), SILENT, NOTHING), zeros(7, 5, 6))

    def test_the_beginning_with_empty_registers(self):
        self.assertEqual(parting_from(EXAMPLE, (0, (None,)), SILENT, NOTHING), zeros(0))
        self.assertEqual(parting_from(EXAMPLE, (0, (None,)), EXAMPLE, (0, (3,))), zeros(0))
        self.assertIsNone(parting_from(SAYS_BELOW, (0, (None,)), SILENT, NOTHING))
        self.assertIsNone(parting_from(SAYS_BETWEEN, (0, (None, 4)), SAYS_BETWEEN, (0, (4, None))))

    def test_the_same_content_twice(self):
        for seed in range(30):
            machine = rich_machine(seed, 2, 2, 2, 3)
            content = (seed % len(machine[2]), (seed % 3, None if seed % 7 == 0 else seed % 5))
            self.assertIsNone(parting_from(machine, content, machine, content))

    def test_contents_that_only_room_makes_alike(self):
        one, other = (0, (3, 4)), (0, (7, 8))
        self.assertIsNone(parting_from(SAYS_BETWEEN, one, SAYS_BETWEEN, other))
        self.assertIsNone(parting_from(SAYS_BETWEEN, one, SAYS_BETWEEN, (0, (8, 7))))
        self.assertEqual(parting_from(SAYS_BETWEEN, one, SAYS_BETWEEN, (0, (7, 9))), zeros(8))
        self.assertIsNone(parting_from(SAYS_BELOW, (0, (0,)), SAYS_BELOW, (0, (None,))))
        self.assertEqual(parting_from(SAYS_BELOW, (0, (1,)), SAYS_BELOW, (0, (2,))), zeros(1))
        self.assertEqual(parting_from(SAYS_BELOW, (0, (10 ** 9,)), SAYS_BELOW, (0, (10 ** 9 + 5,))), zeros(10 ** 9))

    def test_the_least_one(self):
        # Tag 1 parts at once, tag 0 only after one more: the shorter one comes first.
        quick = ((BELOW, (0,), ((0, -1),), 0),)
        slow = ((TRUE, (0,), (), 1),)
        machine = (2, 1, ((slow, quick), (((TRUE, (0,), ((0, -1),), 0),), ())))
        self.assertEqual(parting_from(machine, (0, (1,)), silent(2), NOTHING), ((1, 0),))
        self.assertEqual(parting_from(machine, (0, (0,)), silent(2), NOTHING), ((0, 0), (0, 0)))
        # The tag counts before the value.
        machine = (2, 1, ((((ABOVE, (0,), ((0, -1),), 0),), quick),))
        self.assertEqual(parting_from(machine, (0, (9,)), silent(2), NOTHING), ((0, 10),))

    def test_by_few_joint_types_or_by_many(self):
        # With the tag 0 the held values move up until there is room; with the tag 1 it goes straight on.
        def with_tag_1(following, says=()):
            return ((), ((TRUE, tuple(range(many)), says, following),))

        for many in (3, 4, 5, 6):
            moves = (*range(1, many), -1)
            near = ((between(0, 1), tuple(range(many)), ((0, -1),), 0), (("less", many - 1, -1), moves, (), 0))
            climb = tuple((0, value) for value in range(many + 1, 2 * many)) + ((0, many),)
            for straight in range(1, 8):
                steps = [with_tag_1(at + 1) for at in range(straight - 1)] + [with_tag_1(0, ((0, -1),))]
                machine = (2, many, ((near, steps[0][1]), *steps[1:]))
                for few in (1, 2, 5, 100):
                    with mock.patch("anyvalues.partings.FEW", few):
                        told = parting_from(machine, (0, tuple(range(many))), silent(2), NOTHING)
                    self.assertEqual(told, climb if many <= straight else ((1, 0),) * straight)

    def test_looked_at_from_the_first_joint_type_on(self):
        # However many joint types are looked at before it is asked what parts the machines, the least log is told.
        for seed, one, content, other, another in some_questions(120):
            told = parting_from(one, content, other, another)
            for few in (1, 3, 10):
                with mock.patch("anyvalues.partings.FEW", few):
                    self.assertEqual(parting_from(one, content, other, another), told, seed)

    def test_the_machines_exchanged(self):
        for seed in range(60):
            one, other = room_chain(seed, 2, 3), room_chain(seed + 1, 1, 3)
            content, another = (0, (seed % 4, seed % 7)), (1, (seed % 5,))
            self.assertEqual(parting_from(one, content, other, another), parting_from(other, another, one, content))

    def test_the_same_as_a_search(self):
        found = {}
        for seed, one, content, other, another in some_questions(240):
            told = parting_from(one, content, other, another)
            longest = 3 if one[0] == 2 else 4
            wanted = slow_parting_from(one, content, other, another, longest)
            if told is None or len(told) > longest:
                self.assertIsNone(wanted, seed)
            else:
                self.assertEqual(told, wanted, seed)
            if told is not None:
                one_says, other_says = answers_from(one, content, told), answers_from(other, another, told)
                self.assertEqual(one_says[:-1], other_says[:-1])
                self.assertNotEqual(one_says, other_says)
            length = None if told is None else len(told)
            found[length] = found.get(length, 0) + 1
        for length in (None, 1, 2, 3):
            self.assertGreater(found[length], 5)


def some_questions(many):
    """Machines with contents of any standings, with values near each other."""
    for seed in range(many):
        dice = random.Random(seed)
        tags = 1
        if seed % 3 == 0:
            tags = 1 + seed % 2
            one = rich_machine(seed, 1 + seed % 2, 1 + seed % 2, tags, 3, 0.15)
        elif seed % 11 == 0:
            tags = 2
            one = random_machine(seed, 2, 2, 2, 3, 1)
        else:
            one = room_chain(seed, 1 + seed % 3, dice.randrange(1, 5))
        other = dice.choice((silent(tags), one, rich_machine(seed + 500, 1, 1, tags, 2, 0.2)))

        def content(machine):
            values = [dice.choice((None, *range(dice.choice((2, 5, 8))) , 1, 2)) for _ in range(machine[1])]
            return (dice.randrange(len(machine[2])), tuple(values))

        first, second = content(one), content(other)
        if other is one:
            changed = list(first[1])
            changed[dice.randrange(len(changed))] = dice.randrange(8)
            second = (first[0], tuple(changed))
        yield seed, one, first, other, second


class JudgeRooms(unittest.TestCase):

    def judge(self, one, content, other, another, *lot):
        """What is judged, the same as by trying values."""
        told = judge_rooms(one, content, other, another, lot)
        self.assertIs(told, slow_judge_rooms(one, content, other, another, lot))
        return told

    def test_the_contents_alone(self):
        # Nothing is ever changed: the rooms stay as they are.
        keeps = one_case(between(0, 1), (0, 1), ((0, -1),))
        self.assertTrue(self.judge(keeps, (0, (4, 5)), SILENT, NOTHING, (0, 0, (0, 1), (4, 0))))
        self.assertTrue(self.judge(keeps, (0, (4, 5)), SILENT, NOTHING, (0, 0, (0, 1), (None, 0))))
        self.assertTrue(self.judge(keeps, (0, (4, 5)), SILENT, NOTHING, (0, 0, (0, 1), (9, 0))))
        self.assertFalse(self.judge(keeps, (0, (4, 5)), SILENT, NOTHING, (0, 0, (0, 1), (3, 0))))
        self.assertFalse(self.judge(keeps, (0, (4, 5)), SILENT, NOTHING, (0, 0, (0, 1), (4, 1))))
        self.assertFalse(self.judge(keeps, (0, (4, 5)), SILENT, NOTHING, (0, 0, (0, 1), (4, None))))
        self.assertFalse(self.judge(keeps, (0, (4, 6)), SILENT, NOTHING, (0, 0, (0, 1), (4, 0))))
        self.assertFalse(self.judge(keeps, (0, (5, 5)), SILENT, NOTHING, (0, 0, (0, 1), (5, 0))))
        self.assertFalse(self.judge(keeps, (0, (4, 5)), SILENT, NOTHING))
        self.assertTrue(self.judge(SILENT, NOTHING, SILENT, NOTHING, (0, 0, (), ())))
        self.assertFalse(self.judge(SILENT, NOTHING, SILENT, NOTHING))

    def test_one_twice_and_one_too_many(self):
        keeps = one_case(between(0, 1), (0, 1), ((0, -1),))
        right = (0, 0, (0, 1), (4, 0))
        self.assertTrue(self.judge(keeps, (0, (4, 5)), SILENT, NOTHING, right, right))
        self.assertTrue(self.judge(keeps, (0, (4, 5)), SILENT, NOTHING, (0, 0, (1, 0), (4, 9)), right))
        # What is put in must be right itself, whether it is led to or not.
        self.assertFalse(self.judge(keeps, (0, (4, 5)), SILENT, NOTHING, (0, 0, (0, 1), (0, 1)), right))

    def test_a_value_falls_into_a_room(self):
        # A value between the two takes the place of the lower one: n leaves at most n - 1 above it.
        moves = (1, 2, ((((between(0, 1), (-1, 1), (), 0),),),))
        start = (0, (1, 5))
        self.assertTrue(self.judge(moves, start, SILENT, NOTHING, (0, 0, (0, 1), (None, 3))))
        self.assertFalse(self.judge(moves, start, SILENT, NOTHING, (0, 0, (0, 1), (None, 2))))
        self.assertFalse(self.judge(moves, start, SILENT, NOTHING, (0, 0, (0, 1), (4, 3))))
        exact = [(0, 0, (0, 1), (1 + lost, 3 - lost)) for lost in range(4)]
        self.assertTrue(self.judge(moves, start, SILENT, NOTHING, *exact))
        for left_out in range(4):
            lot = exact[:left_out] + exact[left_out + 1:]
            self.assertFalse(self.judge(moves, start, SILENT, NOTHING, *lot))
        # All three are held: any sizes that together are n - 1.
        keeps = (1, 3, ((((("all", (("empty", 2), between(0, 1))), (0, 1, -1), (), 0),),),))
        start = (0, (0, 4, None))
        parts = [(0, 0, (0, 2, 1), (0, low, 2 - low)) for low in range(3)]
        whole = (0, 0, (0, 1, None), (0, 3))
        self.assertTrue(self.judge(keeps, start, SILENT, NOTHING, whole, *parts))
        for left_out in range(3):
            self.assertFalse(self.judge(keeps, start, SILENT, NOTHING, whole, *parts[:left_out], *parts[left_out + 1:]))
        self.assertTrue(self.judge(keeps, start, SILENT, NOTHING, whole, (0, 0, (0, 2, 1), (0, 2, 2))))
        # In a room of None it leaves two of None.
        wide = (0, 0, (0, 1, None), (0, None))
        self.assertTrue(self.judge(keeps, start, SILENT, NOTHING, wide, (0, 0, (0, 2, 1), (0, None, None))))
        self.assertFalse(self.judge(keeps, start, SILENT, NOTHING, wide, (0, 0, (0, 2, 1), (0, None, 60))))
        self.assertFalse(self.judge(keeps, start, SILENT, NOTHING, wide, (0, 0, (0, 2, 1), (0, 60, None))))
        # No room, no step.
        self.assertTrue(self.judge(keeps, (0, (3, 4, None)), SILENT, NOTHING, (0, 0, (0, 1, None), (3, 0))))

    def test_a_value_above_all_leaves_none_below_it(self):
        moves = (1, 2, ((((("all", (("empty", 1), ABOVE)), (0, -1), (), 0),),),))
        start = (0, (2, None))
        first = (0, 0, (0, None), (2,))
        self.assertTrue(self.judge(moves, start, SILENT, NOTHING, first, (0, 0, (0, 1), (2, None))))
        self.assertFalse(self.judge(moves, start, SILENT, NOTHING, first, (0, 0, (0, 1), (2, 60))))
        self.assertFalse(self.judge(moves, start, SILENT, NOTHING, first))
        # The first value of all.
        fills = (1, 1, ((((("empty", 0), (-1,), (), 0),),),))
        self.assertTrue(self.judge(fills, (0, (None,)), SILENT, NOTHING, (0, 0, (None,), ()), (0, 0, (0,), (None,))))
        self.assertFalse(self.judge(fills, (0, (None,)), SILENT, NOTHING, (0, 0, (None,), ()), (0, 0, (0,), (60,))))

    def test_values_that_are_not_held_any_more(self):
        def forgets(*moves):
            return (1, len(moves), (
                (((TRUE, moves, (), 1),),), ((),),
            ))

        middle = (0, (2, 6, 9))
        first = (0, 0, (0, 1, 2), (2, 3, 2))
        lets = forgets(0, -2, 2)
        self.assertTrue(self.judge(lets, middle, SILENT, NOTHING, first, (1, 0, (0, None, 1), (2, 6))))
        self.assertFalse(self.judge(lets, middle, SILENT, NOTHING, first, (1, 0, (0, None, 1), (2, 5))))
        self.assertFalse(self.judge(lets, middle, SILENT, NOTHING, first, (1, 0, (0, None, 1), (1, 6))))
        for wide in ((2, None, 2), (2, 3, None)):
            lot = (first[:3] + (wide,), (1, 0, (0, None, 1), (2, 60)))
            self.assertFalse(self.judge(lets, middle, SILENT, NOTHING, *lot))
            lot = (first[:3] + (wide,), (1, 0, (0, None, 1), (2, None)))
            self.assertTrue(self.judge(lets, middle, SILENT, NOTHING, *lot))
        # The least one goes: below the next one there is all of it.
        lets = forgets(-2, 1, 2)
        self.assertTrue(self.judge(lets, middle, SILENT, NOTHING, first, (1, 0, (None, 0, 1), (6, 2))))
        self.assertFalse(self.judge(lets, middle, SILENT, NOTHING, first, (1, 0, (None, 0, 1), (5, 2))))
        # The greatest one goes: all room goes into what is above.
        lets = forgets(0, 1, -2)
        self.assertTrue(self.judge(lets, middle, SILENT, NOTHING, first, (1, 0, (0, 1, None), (2, 3))))
        self.assertTrue(self.judge(lets, middle, SILENT, NOTHING, first[:3] + ((2, 3, None),),
                                   (1, 0, (0, 1, None), (2, 3))))
        # All go, but for one that is held twice.
        lets = forgets(1, 1, -2)
        self.assertTrue(self.judge(lets, middle, SILENT, NOTHING, first, (1, 0, (0, 0, None), (6,))))
        self.assertTrue(self.judge(forgets(-2, -2, -2), middle, SILENT, NOTHING, first, (1, 0, (None,) * 3, ())))

    def test_answers_that_differ(self):
        self.assertFalse(self.judge(SAYS_BELOW, (0, (1,)), SILENT, NOTHING, (0, 0, (0,), (1,))))
        self.assertTrue(self.judge(SAYS_BELOW, (0, (0,)), SILENT, NOTHING, (0, 0, (0,), (0,))))
        self.assertFalse(self.judge(SAYS_BELOW, (0, (0,)), SILENT, NOTHING, (0, 0, (0,), (None,))))
        self.assertFalse(self.judge(SAYS_ABOVE, (0, (0,)), SILENT, NOTHING, (0, 0, (0,), (0,))))

    def test_lots_for_other_machines(self):
        for lot in (((0, 1, (0,), (0,)),), ((2, 0, (0,), (0,)),), ((0, 0, (0, 0), (0,)),), ((0, 0, (), ()),)):
            self.assertFalse(judge_rooms(SAYS_BELOW, (0, (0,)), SILENT, NOTHING, lot))
            self.assertFalse(judge_rooms(SAYS_BELOW, (0, (0,)), SILENT, NOTHING, ((0, 0, (0,), (0,)), *lot)))

    def test_told_lots_with_a_change(self):
        judged = {True: 0, False: 0}
        for seed, one, content, other, another in some_questions(160):
            lot = told_rooms(one, content, other, another)
            if lot is None or len(lot) > 60:
                continue
            dice = random.Random(seed)
            self.assertTrue(self.judge(one, content, other, another, *lot, lot[0]))
            for _ in range(4):
                told = self.judge(one, content, other, another, *changed_lot(dice, lot))
                judged[told] += 1
        self.assertGreater(judged[True], 20)
        self.assertGreater(judged[False], 20)


def changed_lot(dice, lot):
    """The lot with one roomy type left out, or with another room in it."""
    at = dice.randrange(len(lot))
    *joint, rooms = lot[at]
    if dice.random() < 0.4 or not rooms:
        return lot[:at] + lot[at + 1:]
    rooms = list(rooms)
    place = dice.randrange(len(rooms))
    room = rooms[place]
    rooms[place] = dice.choice((0, 1, 3) if room is None else (None, room + 1, max(0, room - 1)))
    return lot[:at] + ((*joint, tuple(rooms)),) + lot[at + 1:]


class ToldRooms(unittest.TestCase):

    def test_right_exactly_if_nothing_parts(self):
        alike = 0
        for seed, one, content, other, another in some_questions(160):
            told = told_rooms(one, content, other, another)
            parted = parting_from(one, content, other, another)
            self.assertEqual(told is None, parted is not None, seed)
            if told is not None:
                alike += 1
                self.assertIs(judge_rooms(one, content, other, another, told), True)
                if len(told) < 60:
                    self.assertTrue(slow_judge_rooms(one, content, other, another, told))
                self.assertTrue(any(at_least(roomy, roomy_type(content, another)) for roomy in told))
        self.assertGreater(alike, 50)

    def test_its_form(self):
        told = told_rooms(SAYS_BETWEEN, (0, (3, 4)), SILENT, NOTHING)
        self.assertIsInstance(told, tuple)
        for one, other, ranks, rooms in told:
            self.assertIsInstance(ranks, tuple)
            self.assertIsInstance(rooms, tuple)
            self.assertEqual(len(rooms), len(set(ranks) - {None}))
            self.assertTrue(all(room is None or room >= 0 for room in rooms))
        hash(told)
        self.assertIsNone(told_rooms(SAYS_BETWEEN, (0, (3, 5)), SILENT, NOTHING))

    def test_no_room_some_room_and_much_room(self):
        up = filled(2, [(between(0, 1), (-1, 1))] * 5)
        for low, high in ((0, 5), (4, 4), (9, 2), (7, 8), (10 ** 20, 10 ** 20 + 5)):
            told = told_rooms(up, (2, (low, high)), SILENT, NOTHING)
            self.assertTrue(judge_rooms(up, (2, (low, high)), SILENT, NOTHING, told))
        for low, high in ((0, 6), (4, 10 ** 20)):
            self.assertIsNone(told_rooms(up, (2, (low, high)), SILENT, NOTHING))

    def test_rooms_that_count_together(self):
        # Something is said only if a value falls below all, and so many between the two values.
        for many in (1, 2, 3):
            machine = filled(2, [(BELOW, (0, 1))] + [(between(0, 1), (-1, 1))] * many)
            # And only if one falls between the first two of three values, or so many above them.
            other = filled(3, [(between(0, 1), (0, 1, 2))] + [(between(1, 2), (0, -1, 2))] * many)
            for low in range(3):
                for high in range(6):
                    parts = low >= 1 and high - low - 1 >= many
                    self.check(machine, (2, (low, high)), parts)
                    self.check(other, (3, (low, high, 5)), high - low >= 2 and 4 - high >= many)

    def check(self, machine, content, parts):
        """A right lot is told, unless the machine can say something from the content on."""
        told = told_rooms(machine, content, SILENT, NOTHING)
        self.assertEqual(told is None, parts, content)
        if told is not None:
            self.assertTrue(judge_rooms(machine, content, SILENT, NOTHING, told))
            self.assertTrue(slow_judge_rooms(machine, content, SILENT, NOTHING, told), (content, told))

    def test_rooms_that_grow(self):
        # The middle one of three values is forgotten, then so many must fall between the other ones.
        for many in range(1, 5):
            machine = filled(3, [(TRUE, (0, -2, 2))] + [(between(0, 2), (-1, 1, 2))] * many)
            for low in range(3):
                for middle in range(3):
                    content = (3, (1, 2 + low, 3 + low + middle))
                    self.check(machine, content, low + middle + 1 >= many)

    def test_values_far_apart(self):
        keeps = one_case(between(1, 0), (0, 1), ((0, -1),))
        start = (0, (10 ** 400, 10 ** 900))
        told = told_rooms(keeps, start, SILENT, NOTHING)
        self.assertTrue(judge_rooms(keeps, start, SILENT, NOTHING, told))
        self.assertIsNone(told_rooms(keeps, (0, start[1][::-1]), SILENT, NOTHING))


if __name__ == "__main__":
    unittest.main()
