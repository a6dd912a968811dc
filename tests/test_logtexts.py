"""Point [42]: logs as texts."""

import random
import unittest

from anyvalues.errors import BadText, ValuesError
from anyvalues.logtexts import read_log, write_log
from helpers import made_of_tuples, random_log

MOST = 10 ** 60 - 1


class Writing(unittest.TestCase):

    def test_lines(self):
        self.assertEqual(write_log(((0, 5), (3, -7), (12, 0))), "0 5\n3 -7\n12 0\n")
        self.assertEqual(write_log([(0, 5), (3, -7)]), "0 5\n3 -7\n")

    def test_the_empty_log(self):
        self.assertEqual(write_log(()), "")
        self.assertEqual(write_log([]), "")

    def test_sixty_digits(self):
        self.assertEqual(write_log(((MOST, -MOST), (0, MOST))), f"{'9' * 60} -{'9' * 60}\n0 {'9' * 60}\n")


class Reading(unittest.TestCase):

    def bad(self, text, line):
        with self.assertRaises(BadText) as caught:
            read_log(text)
        self.assertIs(type(caught.exception), BadText)
        self.assertIsInstance(caught.exception, ValuesError)
        self.assertEqual(caught.exception.line, line, repr(text))

    def test_right_texts(self):
        self.assertEqual(read_log(""), ())
        self.assertEqual(read_log("0 0\n"), ((0, 0),))
        self.assertEqual(read_log("7 -12\n0 0\n10 100\n"), ((7, -12), (0, 0), (10, 100)))
        self.assertTrue(made_of_tuples(read_log("7 -12\n0 0\n")))

    def test_there_and_back(self):
        dice = random.Random(2)
        for length in (0, 1, 5, 400):
            for most in (1, 100, MOST):
                log = random_log(dice, 6, length, -most, most)
                self.assertEqual(read_log(write_log(log)), log)
                self.assertEqual(read_log(write_log(list(log))), log)
        text = "".join(f"{dice.randrange(9)} {dice.randrange(-99, 99)}\n" for _ in range(8000))
        self.assertEqual(write_log(read_log(text)), text)

    def test_sixty_and_sixty_one_digits(self):
        digits = "1" + "0" * 59
        self.assertEqual(read_log(f"{digits} {digits}\n{digits} -{digits}\n"),
                         ((10 ** 59, 10 ** 59), (10 ** 59, -10 ** 59)))
        self.assertEqual(read_log(f"0 -{MOST}\n"), ((0, -MOST),))
        for word in (digits + "0", "9" * 61, "9" * 5000):
            self.bad(f"0 1\n0 {word}\n", 2)
            self.bad(f"0 -{word}\n", 1)
            self.bad(f"0 1\n0 1\n{word} 1\n", 3)

    def test_signs_and_needless_zeros(self):
        for word in ("-0", "00", "01", "-01", "-00", "+1", "+0", "--1", "-", "+", "", "1-", "- 1", "000", "-+1"):
            self.bad(f"0 {word}\n", 1)
            self.bad(f"0 1\n0 {word}\n0 2\n", 2)
        for word in ("-1", "-0", "00", "01", "+1", "-", ""):
            self.bad(f"{word} 5\n", 1)

    def test_what_is_no_number(self):
        for word in ("x", "1x", "0x1", "1_0", "1.0", "1e3", "None", "1,", "1;", "v", "r0", "one", "'1'", "(1)"):
            self.bad(f"0 {word}\n", 1)
            self.bad(f"{word} 0\n", 1)

    def test_words(self):
        for line in ("0", "0 1 2", "", " ", "  ", "0 ", " 0", "0  1", " 0 1", "0 1 ", "0\t1", "\t0 1", "0 1\t", "0 \t1",
                     "0 1 -", "01", "0,1", "(0, 1)"):
            self.bad(line + "\n", 1)
            self.bad("3 4\n" + line + "\n5 6\n", 2)

    def test_only_a_newline_ends_a_line(self):
        for mark in ("\r", "\x0b", "\x0c", "\x1c", "\x1d", "\x1e", "\x1f", "\x00"):
            self.bad(f"0 1{mark}\n", 1)
            self.bad(f"0 1{mark}0 2\n", 1)
            self.bad(f"0 1\n0 2{mark}\n0 3\n", 2)
            self.bad(f"0 1\n{mark}0 2\n", 2)
            self.bad(f"0{mark}1\n", 1)
            self.bad(f"0 1\n{mark}", 2)
            self.bad(f"0 1{mark}", 1)

    def test_blank_lines(self):
        self.bad("\n", 1)
        self.bad("\n0 1\n", 1)
        self.bad("0 1\n\n", 2)
        self.bad("0 1\n\n0 1\n", 2)
        self.bad("\n\n", 1)

    def test_the_last_newline(self):
        self.bad("0 1", 1)
        self.bad("x", 1)
        self.bad(" ", 1)
        self.bad("0 1\n0 2", 2)
        self.bad("0 1\n0 2\nx", 3)
        # An earlier wrong line comes first.
        self.bad("0 1\nx 1\n0 2", 2)
        self.bad("0 01\n0 1", 1)
        self.bad("\n0 1", 1)

    def test_the_first_bad_line(self):
        lines = ["0 1"] * 50
        for at in (49, 30, 17, 0):
            lines[at] = "0 -0"
            self.bad("\n".join(lines) + "\n", at + 1)


if __name__ == "__main__":
    unittest.main()
