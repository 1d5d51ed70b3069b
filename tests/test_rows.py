import unittest

from shelfway.errors import NoRow
from shelfway.rows import fall_sum, falls, pairs_out, standing
from tests.helper import brief, check_refused, many_rows, no_rows, places_of_falls, places_out


class PairsOut(unittest.TestCase):
    def test_written_rows(self):
        for row, told in (
            ([], 0),
            ([0], 0),
            ([99], 0),
            ([0, 99], 0),
            ([99, 0], 1),
            ([5, 5], 0),
            ([30, 10, 20, 10], 4),
            ([3, 1, 2], 2),
            ([2, 2, 1, 1], 4),
            ([4] * 12, 0),
            (list(range(12)), 0),
            (list(range(11, -1, -1)), 66),
            ([99, 0] * 6, 21),
        ):
            with self.subTest(row=row):
                self.assertEqual(pairs_out(row), told)

    def test_point_3_by_its_words(self):
        for row in many_rows():
            with self.subTest(row=row):
                told = pairs_out(row)
                self.assertIs(type(told), int)
                self.assertEqual(told, len(places_out(row)))


class Falls(unittest.TestCase):
    def test_written_rows(self):
        for row, told in (
            ([], []),
            ([0], []),
            ([0, 99], []),
            ([99, 0], [1]),
            ([5, 5], []),
            ([30, 10, 20, 10], [1, 3]),
            ([1, 2, 0], [2]),
            ([2, 2, 1, 1, 0, 0], [2, 4]),
            ([4] * 12, []),
            (list(range(12)), []),
            (list(range(11, -1, -1)), [1, 2, 3, 4, 5, 6, 7, 8, 9, 10, 11]),
            ([0, 99] * 6, [2, 4, 6, 8, 10]),
        ):
            with self.subTest(row=row):
                self.assertEqual(falls(row), told)
                self.assertEqual(fall_sum(row), sum(told))

    def test_point_3_by_its_words(self):
        for row in many_rows():
            with self.subTest(row=row):
                told = falls(row)
                self.assertIs(type(told), list)
                self.assertEqual(told, places_of_falls(row))
                self.assertEqual(told, sorted(told))

    def test_fall_sum_is_the_sum_of_the_falls(self):
        for row in many_rows():
            with self.subTest(row=row):
                told = fall_sum(row)
                self.assertIs(type(told), int)
                self.assertEqual(told, sum(falls(row)))
        self.assertEqual(fall_sum(list(range(11, -1, -1))), 66)


class Standing(unittest.TestCase):
    def test_written_rows(self):
        for row, told in (
            ([], []),
            ([0], [0]),
            ([99], [0]),
            ([99, 0], [1, 0]),
            ([5, 5], [0, 1]),
            ([30, 10, 20, 10], [3, 0, 2, 1]),
            ([2, 2, 1, 1, 0, 0], [4, 5, 2, 3, 0, 1]),
            ([4] * 12, list(range(12))),
            (list(range(11, -1, -1)), list(range(11, -1, -1))),
        ):
            with self.subTest(row=row):
                self.assertEqual(standing(row), told)

    def test_point_6_by_its_words(self):
        for row in many_rows():
            wanted = []
            for index, own in enumerate(row):
                others = list(enumerate(row))
                wanted.append(sum(1 for at, volume in others if volume < own or (volume == own and at < index)))
            with self.subTest(row=row):
                told = standing(row)
                self.assertIs(type(told), list)
                self.assertEqual(told, wanted)

    def test_standing_has_the_same_pairs_and_falls(self):
        for row in many_rows():
            with self.subTest(row=row):
                told = standing(row)
                self.assertEqual(places_out(told), places_out(row))
                self.assertEqual(pairs_out(told), pairs_out(row))
                self.assertEqual(falls(told), falls(row))

    def test_standing_is_full(self):
        for row in many_rows():
            with self.subTest(row=row):
                self.assertEqual(sorted(standing(row)), list(range(len(row))))

    def test_standing_of_a_full_row_is_that_row(self):
        for row in many_rows():
            with self.subTest(row=row):
                self.assertEqual(standing(standing(row)), standing(row))


class Refusals(unittest.TestCase):
    def test_no_row(self):
        for function in (pairs_out, falls, fall_sum, standing):
            for row in no_rows():
                with self.subTest(function=function.__name__, row=brief(row)):
                    check_refused(self, NoRow, function, row)
