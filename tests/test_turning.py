import itertools
import unittest

from shelfway.errors import NoRow
from shelfway.full import inverse
from shelfway.rows import fall_sum, falls, pairs_out
from shelfway.turning import turned, turned_back
from tests.helper import (
    arranged, brief, check_refused, full_rows, many_rows, no_rows, not_full_rows, places_of_falls, places_out,
)

WRITTEN = (
    ([], []),
    ([0], [0]),
    ([99], [99]),
    ([1, 2], [1, 2]),
    ([2, 1], [2, 1]),
    ([5, 5], [5, 5]),
    ([1, 2, 3], [1, 2, 3]),
    ([1, 3, 2], [3, 1, 2]),
    ([2, 1, 3], [2, 1, 3]),
    ([2, 3, 1], [2, 3, 1]),
    ([3, 1, 2], [1, 3, 2]),
    ([3, 2, 1], [3, 2, 1]),
    ([2, 1, 1], [1, 2, 1]),
    ([1, 2, 1], [2, 1, 1]),
    ([1, 0, 1], [1, 0, 1]),
    ([6, 8, 3, 9, 4, 1, 7, 2, 5], [3, 6, 4, 8, 9, 1, 7, 2, 5]),
    ([4] * 12, [4] * 12),
    (list(range(12)), list(range(12))),
    (list(range(11, -1, -1)), list(range(11, -1, -1))),
)


def turned_by_its_words(row):
    if len(row) < 2:
        return list(row)
    before, x = turned_by_its_words(row[:-1]), row[-1]
    if before[-1] <= x:
        cuts = [index + 1 for index, volume in enumerate(before) if volume <= x]
    else:
        cuts = [index + 1 for index, volume in enumerate(before) if volume > x]
    pieces = [before[start:end] for start, end in zip([0] + cuts, cuts + [len(before)]) if start < end]
    together = []
    for piece in pieces:
        together += [piece[-1]] + piece[:-1]
    return together + [x]


def rows_to_turn():
    return many_rows() + full_rows() + not_full_rows()


class Turned(unittest.TestCase):
    def test_written_rows(self):
        for row, told in WRITTEN:
            with self.subTest(row=row):
                self.assertEqual(turned(row), told)

    def test_point_11_by_its_words(self):
        for row in rows_to_turn():
            with self.subTest(row=row):
                told = turned(row)
                self.assertIs(type(told), list)
                self.assertEqual(told, turned_by_its_words(row))

    def test_the_same_volumes_and_the_same_one_at_the_end(self):
        for row in rows_to_turn():
            with self.subTest(row=row):
                told = turned(row)
                self.assertEqual(sorted(told), sorted(row))
                self.assertEqual(told[-1:], row[-1:])

    def test_as_many_pairs_as_the_fall_sum(self):
        for row in rows_to_turn():
            with self.subTest(row=row):
                told = turned(row)
                self.assertEqual(len(places_out(told)), sum(places_of_falls(row)))
                self.assertEqual(pairs_out(told), fall_sum(row))

    def test_each_row_is_the_turned_row_of_just_one(self):
        for volumes in ([], [3], [0, 1, 2, 3, 4, 5], [1, 1, 2, 2, 3, 3], [0, 0, 0, 7, 7, 9], [5, 5, 5, 5], [0, 99, 99]):
            rows = arranged(volumes)
            with self.subTest(volumes=volumes):
                self.assertEqual(sorted(turned(row) for row in rows), sorted(rows))


class TurnedBack(unittest.TestCase):
    def test_written_rows(self):
        for told, row in WRITTEN:
            with self.subTest(row=row):
                self.assertEqual(turned_back(row), told)

    def test_turned_back_behind_turned(self):
        for row in rows_to_turn():
            with self.subTest(row=row):
                self.assertEqual(turned_back(turned(row)), row)

    def test_turned_behind_turned_back(self):
        for row in rows_to_turn():
            with self.subTest(row=row):
                told = turned_back(row)
                self.assertIs(type(told), list)
                self.assertEqual(turned_by_its_words(told), row)
                self.assertEqual(turned(told), row)

    def test_the_same_volumes_and_the_fall_sum_from_the_pairs(self):
        for row in rows_to_turn():
            with self.subTest(row=row):
                told = turned_back(row)
                self.assertEqual(sorted(told), sorted(row))
                self.assertEqual(told[-1:], row[-1:])
                self.assertEqual(sum(places_of_falls(told)), len(places_out(row)))


class FallsOfInverses(unittest.TestCase):
    def test_point_13_by_its_words(self):
        for row in full_rows() + [list(row) for row in itertools.permutations(range(6))]:
            with self.subTest(row=row):
                self.assertEqual(falls(inverse(turned(row))), falls(inverse(row)))
                self.assertEqual(falls(inverse(turned_back(row))), falls(inverse(row)))


class Refusals(unittest.TestCase):
    def test_no_row(self):
        for function in (turned, turned_back):
            for row in no_rows():
                with self.subTest(function=function.__name__, row=brief(row)):
                    check_refused(self, NoRow, function, row)
