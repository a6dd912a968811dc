"""Points [9] and [10]: the text of a machine, and reading one."""

import unittest

from anyvalues.errors import BadText, InvalidMachine
from anyvalues.texts import read_machine, write_condition, write_machine
from helpers import EXAMPLE, FALSE, TRUE, random_machine, silent

HEAD = "machine 1 1\n"
LINE = "at 0 on 0 if true keep v say go 0\n"
MOST = 10 ** 60 - 1


def nested(depth):
    """A written condition of this depth."""
    return "not(" * (depth - 1) + "true" + ")" * (depth - 1)


def case_line(condition="true", standing="0", tag="0", keep="v", say="", following="0"):
    """A line of a case whose parts are written as told."""
    words = ["at", standing, "on", tag, "if", condition, "keep"]
    words += ([keep] if keep else []) + ["say"] + ([say] if say else []) + ["go", following]
    return " ".join(words) + "\n"


class Writing(unittest.TestCase):

    def test_each_kind_of_condition(self):
        for condition, text in (
            (TRUE, "true"),
            (FALSE, "false"),
            (("less", -1, 0), "less(v,r0)"),
            (("less", 12, -1), "less(r12,v)"),
            (("same", 3, 4), "same(r3,r4)"),
            (("empty", -1), "empty(v)"),
            (("empty", 5), "empty(r5)"),
            (("not", FALSE), "not(false)"),
            (("all", ()), "all()"),
            (("any", ()), "any()"),
            (("all", (TRUE,)), "all(true)"),
            (("any", (TRUE, ("empty", 0), FALSE)), "any(true,empty(r0),false)"),
            (("not", ("all", (("any", ()), ("less", 0, 1)))), "not(all(any(),less(r0,r1)))"),
            (("empty", MOST), "empty(r" + "9" * 60 + ")"),
        ):
            self.assertEqual(write_condition(condition), text)

    def test_deep_and_wide_conditions(self):
        condition = TRUE
        for _ in range(19):
            condition = ("not", condition)
        self.assertEqual(write_condition(condition), nested(20))
        self.assertEqual(write_condition(("all", (TRUE,) * 2000)), "all(" + ",".join(["true"] * 2000) + ")")

    def test_example(self):
        self.assertEqual(
            write_machine(EXAMPLE),
            "machine 1 1\n"
            "at 0 on 0 if empty(r0) keep v say 0 v go 0\n"
            "at 0 on 0 if less(r0,v) keep v say 0 v 1 r0 go 0\n",
        )

    def test_order_of_lines_and_each_kind_of_source(self):
        machine = (2, 3, (
            ((), ()),
            (((TRUE, (-1, -2, 2), ((7, -2), (0, -1), (1, 1)), 2), (FALSE, (0, 1, 2), (), 0)),
             ((TRUE, (-2, -2, -2), (), 1),)),
            ((), ((TRUE, (0, 0, 0), (), 1),)),
            ((), ()),
        ))
        self.assertEqual(
            write_machine(machine),
            "machine 2 3\n"
            "at 0\n"
            "at 1 on 0 if true keep v none r2 say 7 none 0 v 1 r1 go 2\n"
            "at 1 on 0 if false keep r0 r1 r2 say go 0\n"
            "at 1 on 1 if true keep none none none say go 1\n"
            "at 2 on 1 if true keep r0 r0 r0 say go 1\n"
            "at 3\n",
        )

    def test_no_cases_and_no_registers(self):
        self.assertEqual(write_machine(silent()), "machine 1 0\nat 0\n")
        self.assertEqual(write_machine((1, MOST, (((),),))), "machine 1 " + "9" * 60 + "\nat 0\n")
        self.assertEqual(write_machine((1, 0, ((((TRUE, (), (), 0),),),))),
                         "machine 1 0\nat 0 on 0 if true keep say go 0\n")

    def test_integers_of_many_digits(self):
        machine = (1, 0, ((((TRUE, (), ((MOST, -1), (0, -2)), 0),),),))
        self.assertEqual(write_machine(machine),
                         "machine 1 0\nat 0 on 0 if true keep say " + "9" * 60 + " v 0 none go 0\n")
        self.assertEqual(read_machine(write_machine(machine)), machine)


class Reading(unittest.TestCase):

    def test_what_is_written_comes_back(self):
        for machine in (EXAMPLE, silent(), silent(3), (60, 60, (((),) * 60,))):
            self.assertEqual(read_machine(write_machine(machine)), machine)
        for seed in range(150):
            machine = random_machine(seed, 1 + seed % 4, seed % 5, 1 + seed % 3, 3)
            self.assertEqual(read_machine(write_machine(machine)), machine)

    def test_conditions_come_back(self):
        for condition in (
            FALSE, ("all", ()), ("any", ()), ("not", ("any", (TRUE, ("all", ()), ("same", -1, -1)))),
            ("all", (("less", 0, -1), ("empty", 0))),
        ):
            machine = (1, 1, ((((condition, (0,), (), 0),),),))
            self.assertEqual(read_machine(write_machine(machine)), machine)

    def test_the_depth_of_20(self):
        machine = read_machine(HEAD + case_line(nested(20)))
        self.assertEqual(write_condition(machine[2][0][0][0][0]), nested(20))
        read_machine(HEAD + case_line("all(" * 20 + ")" * 20))
        read_machine(HEAD + case_line("all(true," * 19 + "less(v,r0)" + ")" * 19))

    def test_the_greatest_head(self):
        self.assertEqual(read_machine("machine 60 60\nat 0\n"), (60, 60, (((),) * 60,)))

    def test_parts_are_tuples(self):
        machine = read_machine(HEAD + case_line("all(true,empty(r0))", say="3 r0"))
        self.assertEqual(machine, (1, 1, ((((("all", (TRUE, ("empty", 0))), (-1,), ((3, 0),), 0),),),)))


class BadTexts(unittest.TestCase):

    def bad(self, text, line):
        with self.assertRaises(BadText) as caught:
            read_machine(text)
        self.assertEqual(caught.exception.line, line, text[:200])

    def bad_line(self, text):
        """The line is wrong behind a right one, and so is a line that follows it."""
        self.bad(HEAD + LINE + text + "\n", 3)
        self.bad(HEAD + LINE + text, 3)
        self.bad(HEAD + LINE + text + "\nwrong\n", 3)

    def test_the_helpers_write_right_texts(self):
        read_machine(HEAD + LINE)
        read_machine(HEAD + LINE + case_line())

    def test_the_end_of_the_text(self):
        self.bad("", 1)
        self.bad("machine 1 1", 1)
        self.bad("\n", 1)
        self.bad("x", 1)
        self.bad(HEAD, 2)
        self.bad(HEAD + "at 0", 2)
        self.bad(HEAD + LINE + LINE[:-1], 3)
        self.bad(HEAD + LINE + " ", 3)
        self.bad("machine 1\nat 0", 1)
        self.bad(HEAD + "wrong\n" + LINE[:-1], 2)
        self.bad(HEAD + "at 1\nat 0", 2)

    def test_the_head(self):
        for head in (
            "machine 1", "machine 1 1 1", "machine  1 1", " machine 1 1", "machine 1 1 ", "Machine 1 1",
            "MACHINE 1 1", "machine 01 1", "machine 1 00", "machine +1 1", "machine -1 1", "machine 1 -1",
            "machine 1\t1", "machine 61 1", "machine 1 61", "machine 1" + "0" * 59 + " 1", "machine a b",
            "machine " + "9" * 61 + " 1", "machine", "", "machine 1 1\r", "at 0", "machine v r0", "machine 1. 1",
        ):
            self.bad(head + "\n" + LINE, 1)
            self.bad(head + "\nwrong\n", 1)

    def test_spaces_and_signs(self):
        self.bad(HEAD + LINE + "\n", 3)
        self.bad(HEAD + "\n" + LINE, 2)
        for text in (
            " ", "at", "at ", "at  0", " " + LINE[:-1], LINE[:-1] + " ", LINE[:-1].replace(" on", "  on"),
            LINE[:-1].replace(" say ", " say  "), LINE[:-1].replace(" ", "\t"), LINE[:-1] + "\t", LINE[:-1] + "\r",
            LINE[:-1].upper(), LINE[:-1].replace("if", "If"), LINE[:-1].replace("true", "True"),
            "at 1 ", "at 1\t", "at one", "at -1", "at +1", "at 01", "at 1 on", "at 1 on 0", "\x0b" + LINE[:-1],
        ):
            self.bad_line(text)

    def test_words_of_a_case(self):
        words = LINE[:-1].split(" ")
        for at in range(len(words)):
            self.bad_line(" ".join(words[:at] + words[at + 1:]) if at != 7 else "at 0 on 0 if true keep say go")
            self.bad_line(" ".join(words[:at] + ["x"] + words[at + 1:]))
            self.bad_line(" ".join(words[:at] + [words[at] + "x"] + words[at + 1:]))
        for text in (LINE[:-1] + " 0", LINE[:-1] + " go 0", "at 0 on 0 if true keep v say say go 0",
                     "at 0 on 0 if true keep v say keep go 0", "at 0 on 0 if true keep v go 0 say"):
            self.bad_line(text)

    def test_integers(self):
        long = "1" * 61
        for number in ("00", "01", "-0", "-1", "+1", "1.0", "1_0", "", long, "0x1", "1e3", "r1", "v"):
            self.bad_line(case_line(standing=number)[:-1])
            self.bad_line(case_line(tag=number)[:-1])
            self.bad_line(case_line(following=number)[:-1])
            self.bad_line(case_line(say=number + " v")[:-1])
        for number in ("00", "01", "-1", "+1", "", long, "a", "1 ", "\t1"):
            self.bad_line(case_line("empty(r" + number + ")")[:-1])
            self.bad_line(case_line(keep="r" + number)[:-1])
            self.bad_line(case_line(say="0 r" + number)[:-1])
        self.bad(HEAD + case_line(following="1" * 50000), 2)

    def test_60_digits_are_of_the_form(self):
        most = "9" * 60
        for line in (case_line("empty(r" + most + ")"), case_line(keep="r" + most), case_line(following=most),
                     case_line(say="0 r" + most)):
            with self.assertRaises(InvalidMachine):
                read_machine(HEAD + line)
        read_machine(HEAD + case_line(say=most + " v"))

    def test_sources(self):
        for source in ("-1", "-2", "0", "V", "R0", "None", "nothing", "r", "vv", "v0", "nonex", "v,v", "r0,"):
            self.bad_line(case_line(keep=source)[:-1])
            self.bad_line(case_line(say="0 " + source)[:-1])
        self.bad_line(case_line(say="0")[:-1])
        self.bad_line(case_line(say="0 v 1")[:-1])
        self.bad_line(case_line(say="v 0")[:-1])
        self.bad_line(case_line(say="-1 v")[:-1])

    def test_conditions(self):
        for condition in (
            "true()", "false()", "true(true)", "less", "less()", "less(v)", "less(v,r0,r0)", "less(v,r0",
            "less v,r0)", "less(v,)", "less(,v)", "less(v;r0)", "same(v)", "same(v,none)", "less(none,v)",
            "empty(none)", "empty()", "empty(v,v)", "empty(-1)", "empty(0)", "not()", "not(true,true)", "not",
            "not(true", "not(true))", "all", "any", "all(", "all(true", "all(true,)", "all(,true)", "all(true,,true)",
            "all(true)x", "any)", "()", "", "v", "r0", "(true)", "Less(v,r0)", "nor(true)", "true,true", "truefalse",
            "all(true)(true)", "all(x)", "not(less)", "empty((v))", "empty(v))", "all[true]", "1", "less(v,r00)",
            "less.v,r0)", "same)v,r0)", "empty-v)", "not,true)", "all,true)", "any[true)", "all(true]", "not(true]",
            "all(true;", "any(true.", "any(all(true],true)", "all(any()true)", "less(v,r00", "empty(vx", "empty(r00",
        ):
            self.bad_line(case_line(condition)[:-1])

    def test_the_depth_of_21(self):
        self.bad(HEAD + case_line(nested(21)), 2)
        self.bad(HEAD + case_line("all(" * 21 + ")" * 21), 2)
        self.bad(HEAD + LINE + case_line("any(true," * 20 + "empty(v)" + ")" * 20), 3)
        self.bad(HEAD + case_line("not(" * 20000), 2)
        self.bad(HEAD + case_line("all(" + "all()," * 9000 + nested(20) + ")"), 2)

    def test_tags(self):
        self.bad(HEAD + case_line(tag="1"), 2)
        self.bad("machine 2 1\n" + case_line(tag="1") + case_line(tag="2"), 3)
        self.bad("machine 0 1\n" + case_line(tag="0"), 2)
        self.bad("machine 2 1\n" + case_line(tag="1") + case_line(tag="0"), 3)
        self.bad("machine 3 1\n" + case_line(tag="1") + case_line(tag="2") + case_line(tag="1"), 4)
        read_machine("machine 2 1\n" + case_line(tag="1") + case_line(tag="0", standing="1"))

    def test_standings(self):
        self.bad(HEAD + "at 1\n", 2)
        self.bad(HEAD + case_line(standing="1"), 2)
        self.bad(HEAD + LINE + "at 2\n", 3)
        self.bad(HEAD + LINE + case_line(standing="2"), 3)
        self.bad(HEAD + LINE + "at 1\n" + LINE, 4)
        self.bad(HEAD + "at 0\n" + case_line(standing="1") + case_line(standing="0"), 4)
        self.bad(HEAD + LINE + "at 1\nat 2\nat 1\n", 5)
        self.bad(HEAD + LINE + "at 1\nat 2\nat 0\n", 5)

    def test_a_standing_alone_beside_another_line(self):
        self.bad(HEAD + "at 0\n" + LINE, 3)
        self.bad(HEAD + LINE + "at 0\n", 3)
        self.bad(HEAD + "at 0\nat 0\n", 3)
        self.bad(HEAD + LINE + "at 1\n" + case_line(standing="1"), 4)
        self.bad(HEAD + LINE + case_line(standing="1") + "at 1\n", 4)


class WrongMachines(unittest.TestCase):

    def test_lines_of_the_form_but_no_right_machine(self):
        for text in (
            HEAD + case_line(keep=""),
            HEAD + case_line(keep="v v"),
            HEAD + case_line(keep="r1"),
            HEAD + case_line(say="0 r1"),
            HEAD + case_line("empty(r1)"),
            HEAD + case_line("not(all(true,less(v,r1)))"),
            HEAD + case_line(following="1"),
            "machine 1 0\n" + case_line(keep="none"),
            "machine 0 0\nat 0\n",
            "machine 0 60\nat 0\nat 1\n",
        ):
            with self.assertRaises(InvalidMachine):
                read_machine(text)
            count = text.count("\n")
            for more in ("wrong\n", "at 9\n", "at 0", " "):
                with self.assertRaises(BadText) as caught:
                    read_machine(text + more)
                self.assertEqual(caught.exception.line, count + 1)


if __name__ == "__main__":
    unittest.main()
