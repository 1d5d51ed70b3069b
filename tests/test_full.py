import itertools
import math
import unittest

from shelfway.errors import NoCode, NoRank, NoRow, NotFull
from shelfway.full import code_of, inverse, rank_of, row_at, row_of_code
from shelfway.rows import pairs_out, standing
from tests.helper import (
    LONG_FULL_ROWS, VERY_GREAT, brief, check_refused, codes, full_rows, many_rows, no_codes, no_rows, not_full_rows,
    places_out, tops,
)


def code_by_its_words(row):
    places = range(1, len(row) + 1)
    return [sum(1 for behind in places if behind > place and row[behind - 1] < row[place - 1]) for place in places]


def next_in_order(row):
    """The full row that goes next: the least of those that are greater at the latest place possible."""
    for at in range(len(row) - 2, -1, -1):
        greater = [number for number in row[at + 1:] if number > row[at]]
        if greater:
            head = row[:at] + [min(greater)]
            return head + [number for number in range(len(row)) if number not in head]
    return None


class Inverse(unittest.TestCase):
    def test_written_rows(self):
        for row, told in (
            ([], []),
            ([0], [0]),
            ([0, 1], [0, 1]),
            ([1, 0], [1, 0]),
            ([1, 2, 0], [2, 0, 1]),
            ([2, 0, 1], [1, 2, 0]),
            ([3, 0, 2, 1], [1, 3, 2, 0]),
            (list(range(12)), list(range(12))),
            (list(range(11, -1, -1)), list(range(11, -1, -1))),
            ([1, 2, 3, 4, 5, 6, 7, 8, 9, 10, 11, 0], [11, 0, 1, 2, 3, 4, 5, 6, 7, 8, 9, 10]),
            ([7, 3, 11, 0, 9, 1, 10, 4, 2, 8, 6, 5], [3, 5, 8, 1, 7, 11, 10, 0, 9, 4, 6, 2]),
        ):
            with self.subTest(row=row):
                self.assertEqual(inverse(row), told)

    def test_point_8_by_its_words(self):
        for row in full_rows():
            with self.subTest(row=row):
                told = inverse(row)
                self.assertIs(type(told), list)
                self.assertEqual(len(told), len(row))
                for place in range(1, len(row) + 1):
                    number = row[place - 1]
                    self.assertEqual(told[number], place - 1)

    def test_as_many_pairs_out_of_order(self):
        for row in full_rows():
            with self.subTest(row=row):
                self.assertEqual(len(places_out(inverse(row))), len(places_out(row)))
                self.assertEqual(pairs_out(inverse(row)), pairs_out(row))

    def test_the_inverse_of_the_inverse_is_the_row(self):
        for row in full_rows():
            with self.subTest(row=row):
                self.assertEqual(inverse(inverse(row)), row)

    def test_any_standing_has_an_inverse(self):
        for row in many_rows():
            with self.subTest(row=row):
                self.assertEqual(inverse(inverse(standing(row))), standing(row))


class CodeOf(unittest.TestCase):
    def test_written_rows(self):
        for row, told in (
            ([], []),
            ([0], [0]),
            ([99], [0]),
            ([0, 99], [0, 0]),
            ([99, 0], [1, 0]),
            ([5, 5], [0, 0]),
            ([30, 10, 20, 10], [3, 0, 1, 0]),
            ([2, 2, 1, 1, 0, 0], [4, 4, 2, 2, 0, 0]),
            ([4] * 12, [0] * 12),
            (list(range(12)), [0] * 12),
            (list(range(11, -1, -1)), list(range(11, -1, -1))),
            ([7, 3, 11, 0, 9, 1, 10, 4, 2, 8, 6, 5], [7, 3, 9, 0, 6, 0, 5, 1, 0, 2, 1, 0]),
        ):
            with self.subTest(row=row):
                self.assertEqual(code_of(row), told)

    def test_point_9_by_its_words(self):
        for row in many_rows() + full_rows() + not_full_rows():
            with self.subTest(row=row):
                told = code_of(row)
                self.assertIs(type(told), list)
                self.assertEqual(told, code_by_its_words(row))
                self.assertEqual(sum(told), len(places_out(row)))

    def test_a_row_and_its_standing_have_one_code(self):
        for row in many_rows():
            with self.subTest(row=row):
                self.assertEqual(row_of_code(code_of(row)), standing(row))


class RowOfCode(unittest.TestCase):
    def test_written_codes(self):
        for code, told in (
            ([], []),
            ([0], [0]),
            ([0, 0], [0, 1]),
            ([1, 0], [1, 0]),
            ([1, 1, 0], [1, 2, 0]),
            ([3, 0, 1, 0], [3, 0, 2, 1]),
            ([0] * 12, list(range(12))),
            (list(range(11, -1, -1)), list(range(11, -1, -1))),
            ([7, 3, 9, 0, 6, 0, 5, 1, 0, 2, 1, 0], [7, 3, 11, 0, 9, 1, 10, 4, 2, 8, 6, 5]),
        ):
            with self.subTest(code=code):
                self.assertEqual(row_of_code(code), told)

    def test_a_full_row_that_has_that_code(self):
        for code in codes():
            with self.subTest(code=code):
                told = row_of_code(code)
                self.assertIs(type(told), list)
                self.assertEqual(sorted(told), list(range(len(code))))
                self.assertEqual(code_by_its_words(told), code)
                self.assertEqual(code_of(told), code)

    def test_the_row_of_a_full_rows_code_is_the_row(self):
        for row in full_rows():
            with self.subTest(row=row):
                self.assertEqual(row_of_code(code_of(row)), row)


class Ranks(unittest.TestCase):
    def test_all_full_rows_of_small_lengths_in_their_order(self):
        for length in range(8):
            rows = sorted(itertools.permutations(range(length)))
            for rank, row in enumerate(rows):
                self.assertEqual(row_at(length, rank), list(row))
                self.assertEqual(rank_of(list(row)), rank)

    def test_the_first_and_the_last_rank(self):
        for length in range(13):
            rising = list(range(length))
            last = math.factorial(length) - 1
            with self.subTest(length=length):
                self.assertEqual(row_at(length, 0), rising)
                self.assertEqual(rank_of(rising), 0)
                self.assertEqual(row_at(length, last), rising[::-1])
                self.assertEqual(rank_of(rising[::-1]), last)

    def test_written_ranks_of_twelve(self):
        for row, rank in (
            ([0, 1, 2, 3, 4, 5, 6, 7, 8, 9, 11, 10], 1),
            ([0, 11, 10, 9, 8, 7, 6, 5, 4, 3, 2, 1], 39916799),
            ([1, 0, 2, 3, 4, 5, 6, 7, 8, 9, 10, 11], 39916800),
            ([11, 0, 1, 2, 3, 4, 5, 6, 7, 8, 9, 10], 439084800),
            ([11, 10, 9, 8, 7, 6, 5, 4, 3, 2, 0, 1], 479001598),
        ):
            with self.subTest(row=row):
                self.assertEqual(rank_of(row), rank)
                self.assertEqual(row_at(12, rank), row)

    def test_the_next_rank_has_the_next_row(self):
        for length in range(8, 13):
            many = math.factorial(length)
            for rank in [many * part // 29 for part in range(29)] + [0, 1, 2, many // 2 - 1, many - 2]:
                with self.subTest(length=length, rank=rank):
                    told = row_at(length, rank)
                    self.assertEqual(sorted(told), list(range(length)))
                    self.assertEqual(row_at(length, rank + 1), next_in_order(told))
                    self.assertEqual(rank_of(told), rank)
                    self.assertEqual(rank_of(next_in_order(told)), rank + 1)

    def test_the_row_at_its_rank_is_the_row(self):
        for row in full_rows():
            with self.subTest(row=row):
                rank = rank_of(row)
                self.assertIs(type(rank), int)
                self.assertEqual(row_at(len(row), rank), row)
                self.assertIs(type(row_at(len(row), rank)), list)

    def test_ranks_rise_as_the_rows_do(self):
        rows = sorted(LONG_FULL_ROWS)
        ranks = [rank_of(row) for row in rows]
        self.assertEqual(ranks, sorted(set(ranks)))


class Refusals(unittest.TestCase):
    def test_no_row(self):
        for function in (inverse, code_of, rank_of):
            for row in no_rows():
                with self.subTest(function=function.__name__, row=brief(row)):
                    check_refused(self, NoRow, function, row)

    def test_not_full(self):
        for function in (inverse, rank_of):
            for row in not_full_rows():
                with self.subTest(function=function.__name__, row=row):
                    check_refused(self, NotFull, function, row)

    def test_no_row_goes_ahead_of_not_full(self):
        for row in ([0, 0, 100], [0, 0, -1], [100, 5, 5], [0] * 13, list(range(13)), list(range(20)), [-1, 0, 1]):
            for function in (inverse, rank_of):
                with self.subTest(function=function.__name__, row=row):
                    check_refused(self, NoRow, function, row)

    def test_no_code(self):
        for code in no_codes():
            with self.subTest(code=brief(code)):
                check_refused(self, NoCode, row_of_code, code)

    def test_a_code_turned_about_is_none(self):
        for length in range(2, 13):
            with self.subTest(length=length):
                check_refused(self, NoCode, row_of_code, tops(length)[::-1])

    def test_no_row_for_the_length_whatever_the_rank(self):
        for many in (-1, -2, -12, -(10 ** 30), -VERY_GREAT, 13, 14, 20, 100, 10 ** 30, VERY_GREAT):
            for rank in (0, 1, 5, -1, 479001600, 6227020799, 10 ** 30, VERY_GREAT, -VERY_GREAT):
                with self.subTest(many=brief([many]), rank=brief([rank])):
                    check_refused(self, NoRow, row_at, many, rank)

    def test_no_rank(self):
        for many in range(13):
            rows = math.factorial(many)
            for rank in (-1, -2, -rows, rows, rows + 1, rows * 13, 10 ** 30, -(10 ** 30), VERY_GREAT, -VERY_GREAT):
                with self.subTest(many=many, rank=brief([rank])):
                    check_refused(self, NoRank, row_at, many, rank)
