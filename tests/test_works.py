"""Points [34] and [35]: works, their deeds and errors, and journals."""

import random
import unittest

from anyvalues.alike import parting
from anyvalues.built import band, records, runs, top_list
from anyvalues.errors import InvalidMachine, NoMachine, NothingToRedo, NothingToUndo, ValuesError
from anyvalues.joining import behind, beside
from anyvalues.least import least_machine
from anyvalues.orders import turned
from anyvalues.works import Works, replayed
from helpers import EXAMPLE, TRUE, one_case, random_machine, silent

UNDO = ("undo",)
REDO = ("redo",)
RECORDS, RUNS = records(), runs()
# A case names a register that there is not.
WRONG = (1, 0, ((((("less", 0, -1), (), (), 0),),),))
TWO_TAGS = silent(2)


def works_with(*deeds):
    """Works after these deeds."""
    works = Works()
    for deed in deeds:
        works.do(deed)
    return works


def all_of(works):
    """The machines by their names."""
    return {name: works.machine(name) for name in works.names()}


class Deeds(unittest.TestCase):

    def test_no_machines_at_first(self):
        self.assertEqual(Works().names(), ())
        self.assertEqual(Works().journal(), ())

    def test_put(self):
        works = Works()
        self.assertIsNone(works.do(("put", "a", RECORDS)))
        self.assertEqual(works.names(), ("a",))
        self.assertEqual(works.machine("a"), RECORDS)
        works.do(("put", "a", RUNS))
        self.assertEqual(all_of(works), {"a": RUNS})

    def test_beside_and_behind(self):
        works = works_with(("put", "a", RECORDS), ("put", "b", RUNS))
        works.do(("beside", "c", "a", "b"))
        works.do(("behind", "d", "a", "b"))
        self.assertEqual(all_of(works), {
            "a": RECORDS, "b": RUNS, "c": beside(RECORDS, RUNS), "d": behind(RECORDS, RUNS),
        })
        works.do(("behind", "d", "b", "a"))
        self.assertEqual(works.machine("d"), behind(RUNS, RECORDS))
        works.do(("beside", "d", "d", "a"))
        self.assertEqual(works.machine("d"), beside(behind(RUNS, RECORDS), RECORDS))
        works.do(("beside", "d", "b", "b"))
        self.assertEqual(works.machine("d"), beside(RUNS, RUNS))

    def test_joined_under_its_own_name(self):
        works = works_with(("put", "a", RECORDS), ("put", "b", RUNS), ("beside", "a", "a", "a"))
        self.assertEqual(works.machine("a"), beside(RECORDS, RECORDS))
        works.do(("behind", "b", "a", "b"))
        self.assertEqual(works.machine("b"), behind(beside(RECORDS, RECORDS), RUNS))
        works.do(("behind", "a", "b", "a"))
        self.assertEqual(works.machine("a"), behind(behind(beside(RECORDS, RECORDS), RUNS), beside(RECORDS, RECORDS)))

    def test_behind_takes_machines_of_any_tags(self):
        works = works_with(("put", "a", RECORDS), ("put", "b", TWO_TAGS), ("behind", "c", "b", "a"))
        self.assertEqual(works.machine("c"), behind(TWO_TAGS, RECORDS))
        works.do(("behind", "c", "a", "b"))
        self.assertEqual(works.machine("c"), behind(RECORDS, TWO_TAGS))

    def test_turn_and_reduce_and_drop(self):
        machine = random_machine(4, 2, 3, 2, 3)
        works = works_with(("put", "a", machine), ("put", "b", EXAMPLE), ("turn", "a"))
        self.assertEqual(all_of(works), {"a": turned(machine), "b": EXAMPLE})
        works.do(("reduce", "a"))
        self.assertEqual(works.machine("a"), least_machine(turned(machine)))
        works.do(("drop", "a"))
        self.assertEqual(all_of(works), {"b": EXAMPLE})
        works.do(("drop", "b"))
        self.assertEqual(works.names(), ())

    def test_a_joined_machine_stays_as_it_was(self):
        works = works_with(("put", "a", RECORDS), ("put", "b", RUNS), ("beside", "c", "a", "b"))
        works.do(("put", "a", EXAMPLE))
        works.do(("turn", "b"))
        works.do(("drop", "b"))
        self.assertEqual(works.machine("c"), beside(RECORDS, RUNS))

    def test_names(self):
        works = works_with(*[("put", name, RECORDS) for name in ("b", "ab", "a", "abc", "zz", "aa", "z", "ba")])
        self.assertEqual(works.names(), ("a", "aa", "ab", "abc", "b", "ba", "z", "zz"))
        works.do(("put", "ab", RUNS))
        works.do(("drop", "a"))
        self.assertEqual(works.names(), ("aa", "ab", "abc", "b", "ba", "z", "zz"))
        self.assertEqual(works.machine("ab"), RUNS)
        self.assertEqual(works.machine("abc"), RECORDS)
        with self.assertRaises(NoMachine):
            works.machine("a")
        with self.assertRaises(NoMachine):
            works.do(("turn", "abcd"))


class Errors(unittest.TestCase):

    def check(self, works, deed, error):
        """The deed raises an error of just this class and changes nothing."""
        before = (works.names(), all_of(works), works.journal())
        with self.assertRaises(ValuesError) as caught:
            works.do(deed)
        self.assertIs(type(caught.exception), error)
        self.assertEqual((works.names(), all_of(works), works.journal()), before)

    def test_put(self):
        works = works_with(("put", "a", RECORDS))
        for wrong in (WRONG, (0, 0, ((),)), (1, 0, ()), (1, -1, (((),),)), (2, 0, (((),),))):
            self.check(works, ("put", "a", wrong), InvalidMachine)
            self.check(works, ("put", "b", wrong), InvalidMachine)

    def test_beside_and_behind(self):
        works = works_with(("put", "a", RECORDS), ("put", "b", TWO_TAGS))
        for word in ("beside", "behind"):
            for one, other in (("a", "c"), ("c", "a"), ("c", "c"), ("c", "d"), ("b", "aa")):
                self.check(works, (word, "e", one, other), NoMachine)
                self.check(works, (word, "a", one, other), NoMachine)
        self.check(works, ("beside", "c", "a", "b"), InvalidMachine)
        self.check(works, ("beside", "a", "b", "a"), InvalidMachine)

    def test_turn_reduce_and_drop(self):
        works = works_with(("put", "ab", RECORDS), ("put", "c", RUNS), ("drop", "c"))
        for word in ("turn", "reduce", "drop"):
            for name in ("a", "abc", "b", "c"):
                self.check(works, (word, name), NoMachine)
                self.check(Works(), (word, name), NoMachine)

    def test_undo_and_redo(self):
        self.check(Works(), UNDO, NothingToUndo)
        self.check(Works(), REDO, NothingToRedo)
        works = works_with(("put", "a", RECORDS))
        self.check(works, REDO, NothingToRedo)
        works.do(UNDO)
        self.check(works, UNDO, NothingToUndo)
        works.do(REDO)
        self.check(works, REDO, NothingToRedo)

    def test_what_undo_and_redo_lead_to_stays(self):
        works = works_with(("put", "a", RECORDS), ("put", "b", RUNS), ("put", "c", EXAMPLE), UNDO)
        for deed, error in ((("put", "b", WRONG), InvalidMachine), (("turn", "d"), NoMachine),
                            (("beside", "a", "a", "c"), NoMachine), (("drop", "c"), NoMachine)):
            self.check(works, deed, error)
        works.do(REDO)
        self.assertEqual(all_of(works), {"a": RECORDS, "b": RUNS, "c": EXAMPLE})
        self.check(works, REDO, NothingToRedo)
        works.do(UNDO)
        works.do(UNDO)
        self.assertEqual(all_of(works), {"a": RECORDS})

    def test_machine_and_parting(self):
        works = works_with(("put", "a", RECORDS), ("put", "b", TWO_TAGS))
        for name in ("c", "aa", "ab"):
            with self.assertRaises(NoMachine):
                works.machine(name)
        for one, other in (("a", "c"), ("c", "b"), ("c", "c"), ("c", "d")):
            with self.assertRaises(NoMachine):
                works.parting(one, other)
        with self.assertRaises(InvalidMachine) as caught:
            works.parting("a", "b")
        self.assertIs(type(caught.exception), InvalidMachine)
        self.assertEqual(len(works.journal()), 2)


class UndoAndRedo(unittest.TestCase):

    def test_to_the_beginning_and_to_the_end(self):
        deeds = [("put", "a", RECORDS), ("put", "b", RUNS), ("beside", "c", "a", "b"), ("turn", "a"), ("drop", "b"),
                 ("reduce", "c"), ("put", "a", RUNS), ("behind", "a", "a", "a")]
        works = Works()
        states = [all_of(works)]
        for deed in deeds:
            works.do(deed)
            states.append(all_of(works))
        for _ in range(2):
            for state in reversed(states[:-1]):
                works.do(UNDO)
                self.assertEqual(all_of(works), state)
            with self.assertRaises(NothingToUndo):
                works.do(UNDO)
            for state in states[1:]:
                works.do(REDO)
                self.assertEqual(all_of(works), state)
            with self.assertRaises(NothingToRedo):
                works.do(REDO)

    def test_a_deed_behind_an_undo(self):
        works = works_with(("put", "a", RECORDS), ("put", "b", RUNS), UNDO, ("put", "c", EXAMPLE))
        with self.assertRaises(NothingToRedo):
            works.do(REDO)
        self.assertEqual(works.names(), ("a", "c"))
        works.do(UNDO)
        self.assertEqual(works.names(), ("a",))
        works.do(REDO)
        self.assertEqual(works.names(), ("a", "c"))

    def test_each_deed_counts(self):
        # Also one that leaves all as it is.
        works = works_with(("put", "a", RECORDS), ("put", "a", RECORDS), ("reduce", "a"), ("reduce", "a"), UNDO, UNDO, UNDO)
        self.assertEqual(works.machine("a"), RECORDS)
        works.do(UNDO)
        self.assertEqual(works.names(), ())
        with self.assertRaises(NothingToUndo):
            works.do(UNDO)

    def test_the_last_undone_one_is_done_again(self):
        works = works_with(("put", "a", RECORDS), ("put", "b", RUNS), ("put", "c", EXAMPLE), UNDO, UNDO)
        works.do(REDO)
        self.assertEqual(works.names(), ("a", "b"))
        works.do(UNDO)
        works.do(REDO)
        works.do(REDO)
        self.assertEqual(works.names(), ("a", "b", "c"))

    def test_forty_deeds(self):
        works = Works()
        for at in range(40):
            works.do(("put", "abcdefghij"[at % 10] * (1 + at // 10), random_machine(at)))
        self.assertEqual(len(works.names()), 40)
        for _ in range(40):
            works.do(UNDO)
        self.assertEqual(works.names(), ())
        for _ in range(40):
            works.do(REDO)
        self.assertEqual(works.machine("jjjj"), random_machine(39))
        self.assertEqual(len(works.journal()), 120)

    def test_random_deeds_against_a_list_of_states(self):
        dice = random.Random(3)
        for _ in range(30):
            works, states, at, journal = Works(), [{}], 0, []
            for _ in range(40):
                deed, now = some_deed(dice), states[at]
                wanted, error = outcome(deed, now, at, len(states))
                if error is not None:
                    with self.assertRaises(ValuesError) as caught:
                        works.do(deed)
                    self.assertIs(type(caught.exception), error)
                else:
                    works.do(deed)
                    journal.append(deed)
                    at += -1 if deed == UNDO else 1
                    if deed not in (UNDO, REDO):
                        states = states[:at] + [wanted]
                self.assertEqual(all_of(works), states[at])
                self.assertEqual(works.journal(), tuple(journal))
            self.assertEqual(all_of(replayed(journal)), states[at])


def some_deed(dice):
    """A random deed over a few names."""
    name, one, other = [dice.choice(("a", "b", "ab")) for _ in range(3)]
    machine = dice.choice((RECORDS, RUNS, EXAMPLE, TWO_TAGS, silent(), WRONG, one_case(TRUE, (), ((0, -1),))))
    return dice.choice((
        ("put", name, machine), ("put", name, machine), ("turn", name), ("reduce", name), ("drop", name),
        UNDO, UNDO, REDO, REDO, ("beside", "c", one, other), ("behind", "c", one, other),
    ))


def outcome(deed, now, at, many):
    """The machines after the deed, or None and its error, from the words of points [34] and [35]."""
    word, name = deed[0], deed[-1]
    if word == "undo":
        return None, NothingToUndo if at == 0 else None
    if word == "redo":
        return None, NothingToRedo if at == many - 1 else None
    if word == "put":
        return ({**now, deed[1]: deed[2]}, None) if deed[2] != WRONG else (None, InvalidMachine)
    if any(name not in now for name in (deed[2:] if word in ("beside", "behind") else deed[1:])):
        return None, NoMachine
    if word == "beside":
        one, other = now[deed[2]], now[deed[3]]
        return ({**now, deed[1]: beside(one, other)}, None) if one[0] == other[0] else (None, InvalidMachine)
    if word == "behind":
        return {**now, deed[1]: behind(now[deed[2]], now[deed[3]])}, None
    if word == "drop":
        return {kept: now[kept] for kept in now if kept != name}, None
    return {**now, name: turned(now[name]) if word == "turn" else least_machine(now[name])}, None


class PartingOfNames(unittest.TestCase):

    def test_of_two_names(self):
        works = works_with(("put", "a", RECORDS), ("put", "b", EXAMPLE), ("put", "c", top_list(1)),
                           ("behind", "d", "c", "a"))
        self.assertEqual(works.parting("a", "b"), parting(RECORDS, EXAMPLE))
        self.assertEqual(works.parting("b", "a"), ((0, 0), (0, 1)))
        self.assertEqual(works.parting("a", "c"), ((0, 0), (0, 0)))
        self.assertIsNone(works.parting("a", "d"))
        self.assertIsNone(works.parting("a", "a"))

    def test_after_deeds(self):
        works = works_with(("put", "a", RECORDS), ("put", "b", RECORDS), ("turn", "a"))
        self.assertEqual(works.parting("a", "b"), ((0, 0), (0, 1)))
        works.do(("turn", "b"))
        self.assertIsNone(works.parting("a", "b"))
        works.do(UNDO)
        self.assertEqual(works.parting("a", "b"), ((0, 0), (0, 1)))


class Journal(unittest.TestCase):

    def test_what_is_in_it(self):
        works = works_with(("put", "a", RECORDS), UNDO, REDO, ("turn", "a"))
        for wrong in (("turn", "b"), REDO, ("put", "c", WRONG)):
            with self.assertRaises(ValuesError):
                works.do(wrong)
        works.do(UNDO)
        self.assertEqual(works.journal(), (("put", "a", RECORDS), UNDO, REDO, ("turn", "a"), UNDO))

    def test_replayed(self):
        works = works_with(("put", "a", RECORDS), ("put", "b", band()), ("beside", "c", "a", "b"), UNDO, UNDO, REDO,
                           ("turn", "b"))
        for journal in (works.journal(), list(works.journal())):
            again = replayed(journal)
            self.assertEqual(all_of(again), all_of(works))
            self.assertEqual(again.journal(), works.journal())
            again.do(UNDO)
            self.assertEqual(all_of(again), {"a": RECORDS, "b": band()})
        for end in range(len(works.journal()) + 1):
            begun = works.journal()[:end]
            self.assertEqual(all_of(replayed(begun)), all_of(works_with(*begun)))
        self.assertEqual(replayed(()).names(), ())
        self.assertEqual(replayed([]).journal(), ())

    def test_the_first_error_is_raised(self):
        for deeds, error in (
                ((("put", "a", RECORDS), ("turn", "b"), UNDO, UNDO), NoMachine),
                ((("put", "a", RECORDS), UNDO, UNDO, ("turn", "b")), NothingToUndo),
                ((("put", "a", RECORDS), REDO, ("turn", "b")), NothingToRedo),
                ((("put", "a", WRONG), REDO), InvalidMachine)):
            with self.assertRaises(ValuesError) as caught:
                replayed(deeds)
            self.assertIs(type(caught.exception), error)

    def test_later_changes_to_lists_have_no_effect(self):
        deeds = [("put", "a", RECORDS), ("put", "b", RUNS)]
        works = replayed(deeds)
        deeds.append(("drop", "a"))
        deeds[0] = ("put", "a", EXAMPLE)
        self.assertEqual(all_of(works), {"a": RECORDS, "b": RUNS})
        self.assertEqual(works.journal(), (("put", "a", RECORDS), ("put", "b", RUNS)))
        hash(works.journal())
        hash(works.names())
        hash(works.machine("a"))

    def test_two_works_share_nothing(self):
        one, other = Works(), Works()
        one.do(("put", "a", RECORDS))
        self.assertEqual(other.names(), ())
        other.do(("put", "a", RUNS))
        other.do(("put", "b", RUNS))
        one.do(UNDO)
        self.assertEqual(all_of(other), {"a": RUNS, "b": RUNS})
        self.assertEqual(one.journal(), (("put", "a", RECORDS), UNDO))
        self.assertEqual(other.journal(), (("put", "a", RUNS), ("put", "b", RUNS)))
        again = replayed(other.journal())
        other.do(("drop", "a"))
        self.assertEqual(again.names(), ("a", "b"))


if __name__ == "__main__":
    unittest.main()
