"""Point 8: programs written as texts and read from them, and what is refused."""

import unittest

from fewbits.errors import BitsError, NoFit, NoLine, NoNumber, NoRow, NoWidth
from fewbits.reading import read
from fewbits.writing import write
from helper import EVERY_WORD, WORDS, all_kinds, some_program

SMALL = ((("in", 8), ("num", 8, 3), ("add", 8, 0, 1), ("left", 8, 2, 1)), (3, 0))
SMALL_LINES = ("in 8", "num 8 3", "add 8 0 1", "left 8 2 1", "out 3 0")
SMALL_TEXT = "\n".join(SMALL_LINES)


def every_word_lines():
    return write(EVERY_WORD).split("\n")


class Written(unittest.TestCase):
    def test_line_by_line(self):
        self.assertEqual(write(SMALL), "in 8\nnum 8 3\nadd 8 0 1\nleft 8 2 1\nout 3 0")
        told = write(EVERY_WORD)
        self.assertIs(type(told), str)
        awaited = [" ".join(map(str, row)) for row in EVERY_WORD[0]] + ["out 18 20 15 17 10"]
        self.assertEqual(told, "\n".join(awaited))

    def test_great_numbers(self):
        program = ((("num", 64, 2 ** 64 - 1), ("num", 64, 0)), (0,))
        self.assertEqual(write(program), "num 64 18446744073709551615\nnum 64 0\nout 0")

    def test_one_that_is_not_let_by(self):
        cases = (
            (((("in", 0),), (7,)), "in 0\nout 7"),
            (((("add", 99, 5, 6), ("num", 1, 12)), (3, 3)), "add 99 5 6\nnum 1 12\nout 3 3"),
            (((("left", 8, 0, 64),), (0,)), "left 8 0 64\nout 0"),
            (((("pick", 1, 0, 0, 0),), (0,)), "pick 1 0 0 0\nout 0"),
            (((), (0,)), "out 0"),
            (((), (1, 2, 3, 4, 5, 6, 7, 8)), "out 1 2 3 4 5 6 7 8"),
        )
        for program, text in cases:
            with self.subTest(text=text):
                self.assertEqual(write(program), text)


class BothWays(unittest.TestCase):
    def both_ways(self, program):
        text = write(program)
        told = read(text)
        self.assertEqual(told, program)
        self.assertTrue(all_kinds(told))
        self.assertEqual(write(told), text)

    def test_every_word(self):
        self.assertEqual(sorted(set(row[0] for row in EVERY_WORD[0])), sorted(WORDS))
        self.both_ways(EVERY_WORD)
        self.both_ways(SMALL)

    def test_any_program(self):
        for seed in range(80):
            with self.subTest(seed=seed):
                self.both_ways(some_program(seed, 1 + seed % 40, 1 + seed % 64, seed % 5))

    def test_outs_from_1_to_8(self):
        for count in range(1, 9):
            self.both_ways((SMALL[0], (3, 1, 2, 0, 3, 3, 0, 1)[:count]))

    def test_great_numbers(self):
        self.both_ways(((("num", 64, 2 ** 64 - 1), ("slide", 64, 0, 63)), (1,)))

    def test_more_lines_than_the_bound(self):
        self.both_ways(((("in", 8),) + tuple([("not", 8, k) for k in range(300)]), (300,)))


class Refused(unittest.TestCase):
    def no_line(self, text, row):
        with self.assertRaises(BitsError) as taken:
            read(text)
        self.assertIs(type(taken.exception), NoLine)
        self.assertIs(type(taken.exception.row), int)
        self.assertEqual(taken.exception.row, row)


class SpoiltLines(Refused):
    def spoilt(self, spoil):
        """Each line in turn spoilt, which must be found there."""
        lines = every_word_lines()
        for k in range(len(lines)):
            bad = spoil(lines[k])
            with self.subTest(line=lines[k], bad=bad):
                self.no_line("\n".join(lines[:k] + [bad] + lines[k + 1:]), k)

    def spoilt_number(self, spoil):
        """Each number of each line in turn spoilt."""
        lines = every_word_lines()
        for k, line in enumerate(lines):
            parts = line.split(" ")
            for place in range(1, len(parts)):
                bad = " ".join(parts[:place] + [spoil(parts[place])] + parts[place + 1:])
                with self.subTest(bad=bad):
                    self.no_line("\n".join(lines[:k] + [bad] + lines[k + 1:]), k)

    def test_blanks(self):
        self.spoilt(lambda line: " " + line)
        self.spoilt(lambda line: line + " ")
        self.spoilt(lambda line: line.replace(" ", "  ", 1))
        self.spoilt(lambda line: "  ".join(line.rsplit(" ", 1)))
        self.spoilt(lambda line: line.replace(" ", ""))
        self.spoilt(lambda line: line.replace(" ", "\t", 1))
        self.spoilt(lambda line: line.replace(" ", ",", 1))
        self.spoilt(lambda line: " ")

    def test_words(self):
        self.spoilt(lambda line: "z" + line)
        self.spoilt(lambda line: line.replace(" ", "s ", 1))
        self.spoilt(lambda line: line.upper())
        self.spoilt(lambda line: line[0].upper() + line[1:])
        self.spoilt(lambda line: "nand " + line.split(" ", 1)[1])
        self.spoilt(lambda line: line.split(" ", 1)[1])
        self.spoilt(lambda line: line.split(" ", 1)[0])

    def test_numbers(self):
        for spoil in (
            lambda part: "0" + part, lambda part: "00", lambda part: "+" + part, lambda part: "-" + part,
            lambda part: part + "a", lambda part: "a", lambda part: "a" + part, lambda part: "1_0",
            lambda part: part + "_", lambda part: "_" + part, lambda part: "1" * 21, lambda part: "0" * 21,
            lambda part: "", lambda part: part + ".", lambda part: "1.0", lambda part: "1e1", lambda part: "0x1",
            lambda part: "-0", lambda part: "~", lambda part: "\u0661", lambda part: "\u00b2", lambda part: part + "\r",
        ):
            self.spoilt_number(spoil)

    def test_each_sign_that_is_no_figure(self):
        for sign in [chr(k) for k in list(range(32, 127)) + [9, 13, 0xB2, 0x661, 0xFF11]]:
            if sign not in "0123456789":
                for part in (sign, sign + "1", "1" + sign, "1" + sign + "1"):
                    with self.subTest(part=part):
                        if part.strip(" ") == part and part != "1 1":
                            self.no_line("in 8\nnum 8 " + part + "\nout 0", 1)
                        self.no_line("in 8\nin " + part + "\nout 0", 1)
                        self.no_line("in 8\nin 8\nout " + part + "x", 2)

    def test_a_number_left_out(self):
        # Without one of its outs the last line is still one, but for the last out.
        lines = every_word_lines()
        for k, line in enumerate(lines[:-1]):
            bad = line.rsplit(" ", 1)[0]
            with self.subTest(bad=bad):
                self.no_line("\n".join(lines[:k] + [bad] + lines[k + 1:]), k)
        self.no_line("\n".join(lines[:-1] + ["out"]), len(lines) - 1)
        self.no_line("\n".join(lines[:-1] + ["out "]), len(lines) - 1)

    def test_a_number_more(self):
        lines = every_word_lines()
        for k, line in enumerate(lines[:-1]):
            with self.subTest(line=line):
                self.no_line("\n".join(lines[:k] + [line + " 0"] + lines[k + 1:]), k)
                self.no_line("\n".join(lines[:k] + [line + " 0 0"] + lines[k + 1:]), k)

    def test_an_empty_line(self):
        self.spoilt(lambda line: "")
        self.spoilt(lambda line: "\n" + line)

    def test_a_line_out_that_is_not_the_last(self):
        lines = every_word_lines()
        for k in range(len(lines) - 1):
            for out in ("out 0", "out", "out 0 0"):
                self.no_line("\n".join(lines[:k] + [out] + lines[k + 1:]), k)
                self.no_line("\n".join(lines[:k] + [out] + lines[k:]), k)
        self.no_line(SMALL_TEXT + "\nout 0", 4)
        self.no_line(SMALL_TEXT + "\nin 8", 4)

    def test_a_last_line_that_is_no_out(self):
        self.no_line("in 8\nin 8", 1)
        self.no_line("\n".join(SMALL_LINES[:-1]), 3)
        self.no_line("in 8", 0)

    def test_outs_from_1_to_8(self):
        self.no_line("in 8\nout", 1)
        self.no_line("in 8\nout" + " 0" * 9, 1)
        self.no_line("in 8\nout" + " 0" * 10, 1)
        self.assertEqual(read("in 8\nout" + " 0" * 8), ((("in", 8),), (0,) * 8))

    def test_20_figures(self):
        for line in ("in ", "num 8 ", "num ", "not 8 ", "pick 8 0 0 "):
            for text in (line + "1" * 21 + "\nout 0", line + "1" * 5000 + "\nout 0"):
                with self.subTest(text=text[:40]):
                    self.no_line(text, 0)
        with self.assertRaises(NoWidth):
            read("in " + "9" * 20 + "\nout 0")
        with self.assertRaises(NoNumber):
            read("num 64 " + "9" * 20 + "\nout 0")
        with self.assertRaises(NoRow):
            read("in 8\nout " + "9" * 20)

    def test_ends(self):
        self.no_line("", 0)
        self.no_line("\n", 0)
        self.no_line("\n" + SMALL_TEXT, 0)
        self.no_line(SMALL_TEXT + "\n", 4)
        self.no_line(SMALL_TEXT + "\n\n", 4)
        self.no_line("in 8\r\nout 0", 0)
        self.no_line("in 8\rout 0", 0)
        self.no_line(" ", 0)

    def test_the_first_line_counts(self):
        self.no_line("in 8\nno\nnone\nout", 1)
        self.no_line("in 8\nnot 8\nout", 1)
        self.no_line("out\nin", 0)


class NoText(Refused):
    def test_what_is_no_text(self):
        for thing in (None, 0, 7, True, False, (), ("in 8", "out 0"), ["in 8\nout 0"], {}, b"in 8\nout 0", SMALL, 1.5):
            with self.subTest(thing=repr(thing)):
                self.no_line(thing, 0)


class LookedAt(Refused):
    def looked(self, text, kind, row):
        with self.assertRaises(BitsError) as taken:
            read(text)
        self.assertIs(type(taken.exception), kind)
        self.assertEqual(taken.exception.row, row)

    def test_what_look_refuses(self):
        self.looked("in 8\nin 0\nout 0", NoWidth, 1)
        self.looked("in 65\nin 0\nout 0", NoWidth, 0)
        self.looked("in 8\nnot 8 1\nout 0", NoRow, 1)
        self.looked("in 8\nnot 7 0\nout 0", NoFit, 1)
        self.looked("in 8\nsame 8 0 0\nout 0", NoFit, 1)
        self.looked("in 8\nnum 8 256\nout 0", NoNumber, 1)
        self.looked("in 8\nleft 8 0 64\nout 0", NoNumber, 1)
        self.looked("in 8\nin 8\nout 0 2", NoRow, 2)
        self.looked("out 0", NoRow, 0)

    def test_no_line_comes_ahead(self):
        for bad in ("in 0", "not 8 9", "not 7 0", "num 8 256"):
            with self.subTest(bad=bad):
                self.no_line("in 8\n" + bad + "\nnone\nout 0", 2)
                self.no_line("in 8\n" + bad + "\nin 8\nout", 3)
                self.no_line("in 8\n" + bad + "\nin 8\nout 9 00", 3)
                self.no_line("in 8\n" + bad + "\nin 8\nout 0\n", 3)


class AskedAgain(unittest.TestCase):
    def test_the_same_is_told(self):
        for _ in range(2):
            self.assertEqual(read(SMALL_TEXT), SMALL)
            self.assertEqual(write(SMALL), SMALL_TEXT)
            with self.assertRaises(NoLine):
                read(SMALL_TEXT + " ")


if __name__ == "__main__":
    unittest.main()
