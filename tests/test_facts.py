"""What follows from conditions, so that joined machines have no needless cases."""

import itertools
import random
import unittest

from anyvalues.facts import no_facts
from anyvalues.joining import behind
from anyvalues.machines import holds
from helpers import FALSE, TRUE, one_case, random_condition


def after(*told):
    """The facts after these conditions, each one with True or False as it holds or not; None if that cannot be."""
    facts = no_facts()
    for condition, wanted in told:
        facts = facts.assuming(condition, wanted)
        if facts is None:
            return None
    return facts


def less(one, other):
    return ("less", one, other)


def same(one, other):
    return ("same", one, other)


def empty(place):
    return ("empty", place)


class Follows(unittest.TestCase):

    def check(self, told, condition, truth):
        self.assertIs(after(*told).truth(condition), truth, (told, condition))

    def test_nothing_is_known_at_first(self):
        for condition in (less(0, -1), same(0, 1), empty(0), less(-1, 0), ("not", empty(3)), same(0, 0),
                          ("all", (less(0, 1), TRUE)), ("any", (less(0, 1), FALSE))):
            self.check((), condition, None)
        for condition in (TRUE, same(-1, -1), ("all", ()), ("not", FALSE), ("any", (less(0, 1), TRUE)), ("not", empty(-1))):
            self.check((), condition, True)
        for condition in (FALSE, less(-1, -1), less(0, 0), ("any", ()), empty(-1), ("all", (less(0, 1), FALSE))):
            self.check((), condition, False)

    def test_empty_places(self):
        held, none = ((empty(0), False),), ((empty(0), True),)
        self.check(held, empty(0), False)
        self.check(held, same(0, 0), True)
        self.check(held, less(0, -1), None)
        self.check(none, empty(0), True)
        for condition in (same(0, 0), less(0, -1), less(-1, 0), same(0, 1)):
            self.check(none, condition, False)
        self.check((((same(0, 0)), True),), empty(0), False)
        self.assertIsNone(after((empty(0), True), (less(-1, 0), True)))
        self.assertIsNone(after((less(-1, 0), True), (empty(0), True)))
        self.check(((less(1, 0), True),), empty(1), False)
        self.check(((same(1, 0), True),), empty(0), False)
        # What is the same as itself unless it is empty.
        self.assertIsNone(after((same(0, 0), False), (empty(0), False)))
        self.assertIsNotNone(after((same(0, 0), False), (empty(0), True)))

    def test_orders(self):
        rising = ((less(0, 1), True), (less(1, -1), True))
        self.check(rising, less(0, -1), True)
        self.check(rising, less(-1, 0), False)
        self.check(rising, same(-1, 0), False)
        self.check(rising, same(0, -1), False)
        self.check(rising[::-1], less(0, -1), True)
        equal = ((same(0, 1), True), (same(1, -1), True))
        self.check(equal, same(0, -1), True)
        self.check(equal, same(-1, 0), True)
        self.check(equal, less(0, -1), False)
        self.check(equal, less(-1, 0), False)
        mixed = ((same(0, 1), True), (less(2, 1), True), (less(0, -1), True))
        self.check(mixed, less(2, 0), True)
        self.check(mixed, less(2, -1), True)
        self.check(mixed, less(1, -1), True)
        self.check(mixed, same(1, 2), False)
        longer = tuple((less(at, at + 1), True) for at in (4, 0, 2, 1, 3))
        self.check(longer, less(0, 5), True)
        self.check(longer, less(0, 6), None)
        # Joined in the middle, with a value that is not greater on one side.
        middle = ((empty(1), False), (empty(2), False), (less(0, 1), True), (less(2, 3), True), (less(2, 1), False))
        self.check(middle, less(0, 3), True)
        self.check(middle, less(1, 2), None)

        # What is less stays so, when more is found by which it is not greater.
        again = ((less(0, 1), True), (empty(2), False), (less(2, 0), False), (less(1, 2), False))
        self.check(again, less(0, 1), True)

    def test_what_is_not_less(self):
        held = ((empty(0), False), (empty(1), False))
        self.check(held + ((less(0, 1), False),), less(1, 0), None)
        self.check(held + ((less(0, 1), False), (same(0, 1), False)), less(1, 0), True)
        self.check(held + ((same(0, 1), False), (less(0, 1), False)), less(1, 0), True)
        self.check(held + ((same(1, 0), False), (less(0, 1), False)), less(1, 0), True)
        self.check(held + ((less(0, 1), False), (same(1, 0), False)), less(1, 0), True)
        self.check(held + ((less(0, 1), False), (less(1, 0), False)), same(0, 1), True)
        self.check(held + ((less(0, 1), False), (less(-1, 1), True)), less(-1, 0), True)
        # While a place may be empty nothing follows, later it does.
        self.check(((less(0, 1), False),), less(1, 0), None)
        self.check(((less(0, 1), False), (less(1, 0), False)) + held, same(0, 1), True)
        self.check(((less(0, -1), False), (same(0, -1), False), (empty(0), False)), less(-1, 0), True)
        self.assertIsNone(after((less(0, 1), False), (less(1, 0), False), (same(0, 1), False), *held))

    def test_parts_that_are_left(self):
        one_of = (("any", (less(0, -1), same(0, -1))), True)
        self.check((one_of, (less(0, -1), False)), same(0, -1), True)
        self.check((one_of, (same(0, -1), False)), less(0, -1), True)
        self.check((one_of, (same(0, -1), True)), less(0, -1), False)
        self.check((one_of,), less(-1, 0), None)
        self.assertIsNone(after(one_of, (empty(0), True)))
        not_both = (("all", (less(0, -1), less(1, -1))), False)
        self.check((not_both, (less(0, -1), True), (empty(1), False)), less(1, -1), False)
        self.check((not_both, (less(0, -1), True), (empty(1), False), (same(1, -1), False)), less(-1, 1), True)
        each = (("not", ("any", (less(0, -1), ("not", same(1, -1))))), True)
        self.check((each,), same(1, -1), True)
        self.check((each, (empty(0), False), (same(0, -1), False)), less(1, 0), True)
        # One decided part decides the next one, though it was told first.
        chain = (("any", (less(0, -1), less(1, -1))), True), (("any", (less(-1, 1), less(2, -1))), True)
        self.check(chain + ((empty(0), True),), less(2, -1), True)
        self.assertIsNone(after(*chain, (empty(0), True), (empty(2), True)))

    def test_facts_stay_as_they_are(self):
        facts = after((("any", (less(0, -1), less(1, -1))), True), (empty(0), False))
        facts.assuming(less(0, -1), False)
        facts.assuming(empty(1), True)
        for condition in (less(0, -1), empty(1), less(1, -1), less(-1, 0)):
            self.assertIsNone(facts.truth(condition))

    def test_nothing_follows_that_is_not_so(self):
        dice = random.Random(1)
        contents = list(itertools.product((None, 0, 1, 2), (None, 0, 1, 2), (0, 1, 2)))
        found = {}
        for _ in range(3000):
            told = [(random_condition(dice, 2, 3), dice.random() < 0.5) for _ in range(dice.randrange(1, 5))]
            asked = random_condition(dice, 2, 2)
            left = [(value, (one, other)) for one, other, value in contents
                    if all(holds(condition, value, (one, other)) == wanted for condition, wanted in told)]
            facts = after(*told)
            if facts is None:
                self.assertEqual(left, [], told)
                found["none"] = found.get("none", 0) + 1
                continue
            truth = facts.truth(asked)
            found[truth] = found.get(truth, 0) + 1
            if truth is not None:
                self.assertTrue(all(holds(asked, *content) == truth for content in left), (told, asked))
        self.assertGreater(min(found["none"], found[True], found[False], found[None]), 100)


class Cases(unittest.TestCase):

    def numbers(self, one, other):
        return [len(cases) for standing in behind(one, other)[2] for cases in standing]

    def test_no_needless_cases(self):
        # The value that is read is said five times: it is below the held one each time, or never.
        five = one_case(TRUE, (), ((0, -1),) * 5)
        compares = one_case(less(-1, 0), (0,), ((0, -1),))
        self.assertEqual(self.numbers(five, compares), [2])
        between = one_case(("all", (less(0, -1), less(-1, 1))), (0, 1), ((0, -1),))
        self.assertEqual(self.numbers(five, between), [2])
        either = one_case(("any", (less(0, -1), less(-1, 1))), (0, 1), ((0, -1),))
        self.assertEqual(self.numbers(five, either), [2])
        # The first one always replaces the held one by the value: then the others are the same.
        lasts = (1, 1, ((((less(0, -1), (-1,), ((0, 0),), 0), (TRUE, (-1,), (), 0)),),))
        self.assertEqual(self.numbers(five, lasts), [2])
        # Three registers in rising order, said in turn: each one is greater than the one before.
        rises = one_case(("all", (less(0, 1), less(1, 2))), (0, 1, 2), ((0, 0), (0, 1), (0, 2)))
        self.assertEqual(self.numbers(rises, lasts), [2])

    def test_what_is_said_cannot_be_there(self):
        # A register that is not the same as itself is empty; nothing that it says is read.
        for condition in (("not", same(0, 0)), ("all", (("not", same(0, 0)), TRUE))):
            self.assertEqual(self.numbers(one_case(condition, (0,), ((0, 0),)), one_case(TRUE, (), ((0, -1),))), [1])
        # One of two is empty, if neither is less and they are not the same.
        apart = ("not", ("any", (less(0, 1), less(1, 0), same(0, 1))))
        machine = one_case(apart, (0, 1), ((0, 0), (0, 1)))
        self.assertEqual(self.numbers(machine, one_case(TRUE, (), ((0, -1),))), [3])


if __name__ == "__main__":
    unittest.main()
