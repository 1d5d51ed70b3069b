import itertools
import re
import unittest

from shelfway.errors import NoNote, NoRow
from shelfway.notes import read, shown
from tests.helper import brief, check_refused, full_rows, many_rows, no_rows, not_full_rows

SIGNS = "\t\n" + "".join(chr(number) for number in range(32, 127) if chr(number) != "%")
WRITTEN = re.compile(r"((0|[1-9][0-9]?)( (0|[1-9][0-9]?)){0,11})?")

NO_NOTES = (
    " ", "  ", "   ", "\t", "\n", "\n\n", "\t\n", " \n", "\n ", "\t ",
    "00", "01", "09", "007", "000", "1 00", "01 1", "1 02 3", "100", "999", "1000", "1 100", "100 1", "0100",
    "-1", "+1", "-0", "+0", "- 1", "1 -1", "1 +2", "-", "+", "--1", "1-", "9" * 100,
    "a", "x1", "1x", "1a2", "a b", "1 b", "0x1", "1e1", "one", "A", "1L", "0b1", "0o7", "None",
    "_", "1_0", "1_", "_1", "1 1_0", "1_0 1", "1__0",
    " 1", "1 ", " 1 ", "1 2 ", " 1 2", "  1", "1  ", "1  2", "1 2  3", "1   2", " 0", "0 ",
    "1\t2", "\t1", "1\t", "1\n2", "\n1", "1\n", "1 2\n", "1 2\t", "1 \n2", "1\n 2", "1 \t2", "1\t 2", "1 \n", "10\n",
    "1 \t 2", "1 \n 2", "0\n", "99\n", "12 13\n\n", " ".join(["1"] * 12) + "\n", "\n" + " ".join(["1"] * 12),
    "1,2", "1, 2", "1;2", "1.2", "1.0", "1/2", "1:2", "1-2", "1|2", "[1]", "[1, 2]", "(1)", "1,", ",", ".", "'1'",
    " ".join(["1"] * 12) + " ", " " + " ".join(["1"] * 12), " ".join(["1"] * 6) + "  " + " ".join(["1"] * 6),
    " ".join(["0"] * 13), " ".join(["10"] * 13), " ".join(["1"] * 20), " ".join(["1"] * 50), " " * 11, " " * 12,
    " " * 100, "a" * 100, "0" * 100, "1" * 100, "\n" * 100, " ".join(str(number) for number in range(13)),
)


class Shown(unittest.TestCase):
    def test_written_rows(self):
        for row, told in (
            ([], ""),
            ([0], "0"),
            ([9], "9"),
            ([10], "10"),
            ([99], "99"),
            ([0, 0], "0 0"),
            ([1, 20, 3], "1 20 3"),
            ([99, 0, 10, 9], "99 0 10 9"),
            ([4] * 12, "4 4 4 4 4 4 4 4 4 4 4 4"),
            ([99] * 12, "99 99 99 99 99 99 99 99 99 99 99 99"),
            (list(range(12)), "0 1 2 3 4 5 6 7 8 9 10 11"),
        ):
            with self.subTest(row=row):
                self.assertEqual(shown(row), told)
                self.assertIs(type(shown(row)), str)
                self.assertEqual(read(told), row)

    def test_each_volume_by_its_figures(self):
        for volume in range(100):
            figures = "0123456789"[volume % 10]
            if volume > 9:
                figures = "0123456789"[volume // 10] + figures
            self.assertEqual(shown([volume]), figures)
            self.assertEqual(read(figures), [volume])
            self.assertEqual(shown([volume] * 12), " ".join([figures] * 12))
            self.assertEqual(read(" ".join([figures] * 12)), [volume] * 12)


class Read(unittest.TestCase):
    def test_what_is_written_is_read_to_the_same_row(self):
        for row in many_rows() + full_rows() + not_full_rows():
            with self.subTest(row=row):
                told = read(shown(row))
                self.assertEqual(told, row)
                self.assertIs(type(told), list)
                for volume in told:
                    self.assertIs(type(volume), int)

    def test_short_texts_of_every_sign(self):
        for text in [one + other for one in SIGNS for other in SIGNS] + list(SIGNS) + [""]:
            self.check_by_the_words(text)

    def test_longer_texts_of_some_signs(self):
        for length in (3, 4, 5):
            for signs in itertools.product("019 \n-", repeat=length):
                self.check_by_the_words("".join(signs))

    def test_other_signs_in_the_place_of_a_blank_or_beside_it(self):
        for sign in SIGNS:
            for text in ("1?2", "1 ?2", "1? 2", "?1 2", "1 2?", "1 ? 2", "12?"):
                self.check_by_the_words(text.replace("?", sign))

    def check_by_the_words(self, text):
        if WRITTEN.fullmatch(text):
            told = read(text)
            self.assertEqual(shown(told), text)
            self.assertEqual([str(volume) for volume in told], re.findall("[0-9]+", text))
        else:
            with self.subTest(text=text):
                check_refused(self, NoNote, read, text)


class Refusals(unittest.TestCase):
    def test_no_note(self):
        for text in NO_NOTES:
            with self.subTest(text=text):
                check_refused(self, NoNote, read, text)

    def test_no_row(self):
        for row in no_rows():
            with self.subTest(row=brief(row)):
                check_refused(self, NoRow, shown, row)
