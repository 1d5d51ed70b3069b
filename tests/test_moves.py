import unittest

from shelfway.errors import NoPlace, NoRow
from shelfway.moves import steps, swapped
from tests.helper import VERY_GREAT, brief, check_refused, many_rows, no_rows, places_of_falls, places_out


def wrong_places(length):
    # Twelve is here for every length: it is the last place of the longest row.
    return (0, -1, -2, -length, 1 - length if length > 1 else -3, -12, -(10 ** 30), -VERY_GREAT,
            length if length > 0 else 1, length + 1, length + 2, 12, 13, 200, 10 ** 30, VERY_GREAT)


class Swapped(unittest.TestCase):
    def test_written_swaps(self):
        for row, places, told in (
            ([], [], []),
            ([7], [], [7]),
            ([1, 2, 3], [], [1, 2, 3]),
            ([1, 2], [1], [2, 1]),
            ([1, 2, 3], [1], [2, 1, 3]),
            ([1, 2, 3], [2], [1, 3, 2]),
            ([1, 2, 3], [1, 2], [2, 3, 1]),
            ([1, 2, 3], [2, 1], [3, 1, 2]),
            ([1, 2, 3], [1, 1], [1, 2, 3]),
            ([1, 2, 3], [1, 1, 1], [2, 1, 3]),
            ([1, 2, 3], [1, 2, 1], [3, 2, 1]),
            ([5, 5, 0], [1], [5, 5, 0]),
            ([0, 99], [1], [99, 0]),
            (list(range(12)), [11], [0, 1, 2, 3, 4, 5, 6, 7, 8, 9, 11, 10]),
            (list(range(12)), list(range(1, 12)), [1, 2, 3, 4, 5, 6, 7, 8, 9, 10, 11, 0]),
            (list(range(12)), list(range(11, 0, -1)), [11, 0, 1, 2, 3, 4, 5, 6, 7, 8, 9, 10]),
        ):
            with self.subTest(row=row, places=places):
                self.assertEqual(swapped(row, places), told)

    def test_each_place_that_has_a_next_one(self):
        for row in many_rows():
            for place in range(1, len(row)):
                with self.subTest(row=row, place=place):
                    wanted = row[:place - 1] + [row[place], row[place - 1]] + row[place + 1:]
                    self.assertEqual(swapped(row, [place]), wanted)

    def test_one_behind_the_other(self):
        row = [12, 50, 3, 3, 77, 50, 0, 99, 12, 8, 41, 3]
        for many in (0, 1, 2, 17, 199, 200):
            places = [(step * step * 5 + step * 3) % 11 + 1 for step in range(many)]
            wanted = row
            for place in places:
                wanted = swapped(wanted, [place])
            with self.subTest(many=many):
                self.assertEqual(swapped(row, places), wanted)

    def test_many_swaps_at_one_place(self):
        self.assertEqual(swapped([8, 9], [1] * 199), [9, 8])
        self.assertEqual(swapped([8, 9], [1] * 200), [8, 9])

    def test_more_places_than_200_are_not_refused(self):
        self.assertEqual(swapped([8, 9], [1] * 201), [9, 8])

    def test_row_and_places_may_be_one_list(self):
        both = [1, 2, 1, 3]
        self.assertEqual(swapped(both, both), swapped([1, 2, 1, 3], [1, 2, 1, 3]))
        self.assertEqual(both, [1, 2, 1, 3])


class Steps(unittest.TestCase):
    def test_rows_without_a_choice(self):
        for row, told in (
            ([], []),
            ([7], []),
            ([5, 5], []),
            ([0, 99], []),
            ([99, 0], [1]),
            ([1, 2, 0], [2, 1]),
            ([2, 0, 1], [1, 2]),
            ([4] * 12, []),
            (list(range(12)), []),
        ):
            with self.subTest(row=row):
                self.assertEqual(steps(row), told)

    def test_point_5_by_its_words(self):
        for row in many_rows():
            with self.subTest(row=row):
                told = steps(row)
                self.assertIs(type(told), list)
                self.assertEqual(len(told), len(places_out(row)))
                for place in told:
                    self.assertIs(type(place), int)
                    self.assertTrue(1 <= place < len(row))
                ordered = swapped(row, told)
                self.assertEqual(places_of_falls(ordered), [])
                self.assertEqual(ordered, sorted(row))

    def test_the_falling_row_of_twelve(self):
        self.assertEqual(len(steps(list(range(11, -1, -1)))), 66)


class Refusals(unittest.TestCase):
    def test_no_row(self):
        for row in no_rows():
            with self.subTest(row=brief(row)):
                check_refused(self, NoRow, steps, row)
                check_refused(self, NoRow, swapped, row, [])
                check_refused(self, NoRow, swapped, row, [1])

    def test_no_place(self):
        for length in range(13):
            row = list(range(length))
            for wrong in wrong_places(length):
                with self.subTest(length=length, wrong=brief([wrong])):
                    check_refused(self, NoPlace, swapped, row, [wrong])

    def test_no_place_behind_good_ones_and_ahead_of_them(self):
        for length in range(2, 13):
            row = list(range(length))
            good = list(range(1, length))
            for wrong in wrong_places(length):
                with self.subTest(length=length, wrong=brief([wrong])):
                    check_refused(self, NoPlace, swapped, row, good + [wrong])
                    check_refused(self, NoPlace, swapped, row, [wrong] + good)
                    check_refused(self, NoPlace, swapped, row, [1] * 199 + [wrong])

    def test_no_row_goes_ahead_of_no_place(self):
        for row in no_rows():
            for wrong in (0, -1, len(row), len(row) + 1, VERY_GREAT, -VERY_GREAT):
                with self.subTest(row=brief(row), wrong=brief([wrong])):
                    check_refused(self, NoRow, swapped, row, [wrong])
                    check_refused(self, NoRow, swapped, row, [1, wrong])
