"""Points [1] to [3]: what holds throughout, and the names and arguments of the interface."""

import ast
import copy
import importlib
import inspect
import pathlib
import unittest

from anyvalues.alike import judge, parting, saying, speaking_alone, told_lot
from anyvalues.built import band, records, runs, top_list, turning_points
from anyvalues.changes import doubling_matters, dropping_matters, falling, swapping_matters
from anyvalues.comings import case_log, log_to, relations
from anyvalues.counts import count_saying, orders
from anyvalues.groups import groups_of
from anyvalues.joining import behind, beside
from anyvalues.least import least_machine
from anyvalues.logtexts import read_log, write_log
from anyvalues.machines import answers, answers_from, beginning, check_machine, holds, read
from anyvalues.needs import kinds_of, needed, one_kind
from anyvalues.numbers import log_of_number, number_of_log
from anyvalues.orders import ranks_of, tight, turned
from anyvalues.rooms import judge_rooms, parting_from, told_rooms
from anyvalues.spotting import spotter
from anyvalues.texts import read_machine, write_condition, write_machine
from anyvalues.traces import log_of_spots, spots_along, trace, type_behind
from anyvalues.trimming import trimmed
from anyvalues.types import step_of, type_of, types_of
from anyvalues.works import Works, replayed
from helpers import EXAMPLE, TRUE, one_case, random_machine

HUGE = 10 ** 5000

# Each function of the interface, with its arguments, under the file that lists it.
INTERFACE = {
    "machines": {
        "check_machine": ["machine"],
        "holds": ["condition", "value", "held"],
        "beginning": ["machine"],
        "read": ["machine", "content", "entry"],
        "answers": ["machine", "log"],
        "answers_from": ["machine", "content", "log"],
    },
    "texts": {
        "write_condition": ["condition"],
        "write_machine": ["machine"],
        "read_machine": ["text"],
    },
    "orders": {
        "tight": ["log"],
        "ranks_of": ["held"],
        "turned": ["machine"],
    },
    "types": {
        "type_of": ["content"],
        "step_of": ["machine", "kind", "tag", "spot"],
        "types_of": ["machine"],
    },
    "comings": {
        "log_to": ["machine", "kind"],
        "case_log": ["machine", "standing", "tag", "case"],
        "relations": ["machine", "standing", "one", "other"],
    },
    "alike": {
        "parting": ["one", "other"],
        "told_lot": ["one", "other"],
        "judge": ["one", "other", "lot"],
        "parting_under": ["guard", "one", "other"],
        "told_lot_under": ["guard", "one", "other"],
        "judge_under": ["guard", "one", "other", "lot"],
        "saying": ["machine", "tag"],
        "speaking_alone": ["one", "other"],
    },
    "needs": {
        "needed": ["machine", "kind"],
        "one_kind": ["one", "kind", "other", "another"],
        "kinds_of": ["machine"],
    },
    "least": {
        "least_machine": ["machine"],
    },
    "rooms": {
        "parting_from": ["one", "content", "other", "another"],
        "judge_rooms": ["one", "content", "other", "another", "lot"],
        "told_rooms": ["one", "content", "other", "another"],
    },
    "counts": {
        "orders": ["n"],
        "count_saying": ["machine", "tag", "n"],
    },
    "joining": {
        "beside": ["one", "other"],
        "behind": ["one", "other"],
    },
    "built": {
        "records": [],
        "top_list": ["k"],
        "band": [],
        "turning_points": [],
        "runs": [],
    },
    "works": {
        "replayed": ["journal"],
    },
    "spotting": {
        "spotter": ["pattern"],
    },
    "trimming": {
        "trimmed": ["machine"],
    },
    "numbers": {
        "log_of_number": ["n", "number"],
        "number_of_log": ["log"],
    },
    "changes": {
        "doubling_matters": ["machine"],
        "dropping_matters": ["machine"],
        "swapping_matters": ["machine"],
        "falling": ["machine", "tag"],
    },
    "groups": {
        "groups_of": ["machines"],
    },
    "logtexts": {
        "write_log": ["log"],
        "read_log": ["text"],
    },
    "traces": {
        "trace": ["machine", "log"],
        "spots_along": ["machine", "log"],
        "type_behind": ["machine", "spots"],
        "log_of_spots": ["machine", "spots"],
    },
}

# The errors of the interface, each a direct subclass of the first one.
ERRORS = ("ValuesError", "InvalidMachine", "BadText", "NoMachine", "NothingToUndo", "NothingToRedo")

# The methods of the interface's class, with their arguments.
WORKS = {
    "do": ["self", "deed"],
    "names": ["self"],
    "machine": ["self", "name"],
    "parting": ["self", "one", "other"],
    "journal": ["self"],
}


class Interface(unittest.TestCase):

    def test_names_arguments_and_files(self):
        for file, functions in INTERFACE.items():
            module = importlib.import_module("anyvalues." + file)
            for name, arguments in functions.items():
                function = getattr(module, name)
                self.assertEqual(list(inspect.signature(function).parameters), arguments, name)
                self.assertEqual(function.__module__, "anyvalues." + file, name)

    def test_errors_stand_in_their_file(self):
        module = importlib.import_module("anyvalues.errors")
        for name in ERRORS:
            error = getattr(module, name)
            self.assertEqual(error.__module__, "anyvalues.errors")
            self.assertEqual(error.__bases__, (ValueError,) if name == "ValuesError" else (module.ValuesError,))

    def test_what_the_interface_lists_is_defined_in_its_file(self):
        package = pathlib.Path(__file__).resolve().parent.parent / "anyvalues"
        listed = {file: list(functions) for file, functions in INTERFACE.items()}
        listed["works"].append("Works")
        listed["errors"] = list(ERRORS)
        for file, names in listed.items():
            tree = ast.parse((package / (file + ".py")).read_text())
            defined = [node.name for node in tree.body if isinstance(node, (ast.FunctionDef, ast.ClassDef))]
            for name in names:
                self.assertIn(name, defined, file)

    def test_methods_of_works(self):
        self.assertEqual(Works.__module__, "anyvalues.works")
        for name, arguments in WORKS.items():
            self.assertEqual(list(inspect.signature(vars(Works)[name]).parameters), arguments, name)


class Throughout(unittest.TestCase):

    def test_arguments_stay_as_they_are(self):
        machine = random_machine(3, 2, 3, 2, 3)
        before = copy.deepcopy(machine)
        log = [(0, 3), (1, -4), (0, HUGE), (1, 3)]
        log_before = list(log)
        content = (1, (4, None, -1))
        check_machine(machine)
        read_machine(write_machine(machine))
        answers(machine, log)
        answers_from(machine, content, log)
        read(machine, content, log[0])
        tight(log)
        turned(machine)
        type_of(content)
        for kind in types_of(machine):
            log_to(machine, kind)
            step_of(machine, kind, 1, 0)
        case_log(machine, 0, 1, 0)
        relations(machine, 0, 0, 1)
        judge(machine, machine, told_lot(machine, machine))
        saying(machine, 1)
        for kind in kinds_of(machine):
            needed(machine, kind)
            one_kind(machine, kind, machine, (0, (0, 1, None)))
        least_machine(machine)
        parting_from(machine, content, machine, content)
        judge_rooms(machine, content, machine, content, told_rooms(machine, content, machine, content))
        count_saying(machine, 0, 3)
        beside(machine, machine)
        behind(machine, machine)
        trimmed(machine)
        doubling_matters(machine)
        dropping_matters(machine)
        swapping_matters(machine)
        falling(machine, 0)
        groups_of((machine, machine))
        read_log(write_log(log[:2]))
        trace(machine, log)
        spots = list(spots_along(machine, log))
        spots_before = list(spots)
        type_behind(machine, spots)
        log_of_spots(machine, spots)
        self.assertEqual(spots, spots_before)
        journal = [("put", "a", machine), ("turn", "a"), ("undo",)]
        self.assertEqual(replayed(journal).machine("a"), machine)
        self.assertEqual(journal, [("put", "a", before), ("turn", "a"), ("undo",)])
        self.assertEqual(machine, before)
        self.assertEqual(log, log_before)
        self.assertEqual(content, (1, (4, None, -1)))

    def test_results_have_no_changeable_part(self):
        machine = random_machine(3, 2, 3, 2, 3)
        log = [(0, 3), (1, -4), (0, 8), (1, 3)]
        for result in (answers(machine, log), read(machine, beginning(machine), log[0]), beginning(machine),
                       read_machine(write_machine(machine)), tight(log), ranks_of((1, None)), turned(machine),
                       type_of((0, (3, 1))), types_of(machine), step_of(machine, (0, (None,) * 3), 0, 0),
                       log_to(machine, types_of(machine)[-1]), relations(machine, 0, 0, 1),
                       told_lot(machine, machine), saying(EXAMPLE, 1), parting(EXAMPLE, turned(EXAMPLE)),
                       speaking_alone(EXAMPLE, turned(EXAMPLE)), case_log(EXAMPLE, 0, 0, 1),
                       needed(EXAMPLE, (0, (0,))), kinds_of(machine), least_machine(machine),
                       parting_from(EXAMPLE, (0, (3,)), EXAMPLE, (0, (None,))),
                       told_rooms(EXAMPLE, (0, (3,)), EXAMPLE, (0, (3,))),
                       beside(machine, machine), behind(machine, machine), records(), top_list(3), band(),
                       turning_points(), runs(), orders(60), count_saying(machine, 1, 4), Works().names(),
                       replayed([("put", "a", machine)]).journal(), spotter((0, 1, 0)), trimmed(machine),
                       log_of_number(5, 17), number_of_log(((0, 1), (0, 0))), doubling_matters(runs()),
                       dropping_matters(runs()), swapping_matters(runs()), falling(runs(), 0),
                       groups_of((machine, EXAMPLE, machine)), read_log("0 1\n"), write_log(log), trace(machine, log),
                       spots_along(machine, log), type_behind(machine, spots_along(machine, log)),
                       log_of_spots(machine, spots_along(machine, log))):
            self.assertIsNotNone(result)
            hash(result)
        told = answers(machine, log)
        kept = copy.deepcopy(told)
        log.append((0, 9))
        log[0] = (1, 1)
        self.assertEqual(told, kept)

    def test_integers_of_any_size(self):
        machine = (1, 1, ((((("less", 0, -1), (-1,), ((HUGE, 0), (0, -1)), 0), (TRUE, (-1,), (), 0)),),))
        self.assertIsNone(check_machine(machine))
        self.assertEqual(answers(machine, ((0, -HUGE), (0, HUGE), (0, HUGE + 1))),
                         ((), ((HUGE, -HUGE), (0, HUGE)), ((HUGE, HUGE), (0, HUGE + 1))))
        self.assertTrue(holds(("less", 0, -1), HUGE, (HUGE - 1,)))
        self.assertEqual(least_machine(one_case(TRUE, (), ((HUGE, -1),)))[2][0][0][0][2], ((HUGE, -1),))
        self.assertEqual(parting_from(EXAMPLE, (0, (HUGE,)), EXAMPLE, (0, (HUGE + 1,))), ((0, HUGE + 1),))
        self.assertIsNotNone(told_rooms(EXAMPLE, (0, (HUGE,)), EXAMPLE, (0, (HUGE,))))
        both = behind(EXAMPLE, one_case(TRUE, (), ((HUGE, -1),)))
        self.assertEqual(answers(both, ((0, HUGE), (0, -HUGE))), (((HUGE, HUGE),), ()))
        self.assertEqual(count_saying(both, HUGE, 2), 1)
        self.assertEqual(trimmed(both), both)
        self.assertEqual(groups_of((both, EXAMPLE, both)), ((0, 2), (1,)))
        self.assertIsNotNone(dropping_matters(both))
        self.assertEqual(falling(turned(both), HUGE), falling(turned(EXAMPLE), 0))
        self.assertEqual(spots_along(EXAMPLE, ((0, HUGE), (0, HUGE + 1))), ((0, 0), (0, 2)))

    def test_what_is_asked_of_one_machine_does_not_hang_on_another_one(self):
        log = ((0, 5), (0, 3), (0, 8))
        first = answers(EXAMPLE, log)
        for seed in range(20):
            answers(random_machine(seed, 2, 2, 1, 3), log)
            write_condition(("all", (("less", 0, -1), TRUE)))
        self.assertEqual(answers(EXAMPLE, log), first)


if __name__ == "__main__":
    unittest.main()
