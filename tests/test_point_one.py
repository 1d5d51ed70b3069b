"""Point 1: nothing that is handed in is changed or hung on, told lists are new, no clock, chance or files."""

import ast
import math
import pathlib
import unittest

import shelfway
from shelfway.counts import spread
from shelfway.errors import NoAmount, NoCode, NoPlace, NoRank, NoRow, NotFull
from shelfway.full import code_of, inverse, rank_of, row_at, row_of_code
from shelfway.moves import steps, swapped
from shelfway.notes import read, shown
from shelfway.rows import fall_sum, falls, pairs_out, standing
from shelfway.turning import turned, turned_back
from tests.helper import (
    brief, check_refused, codes, full_amounts, full_rows, many_rows, no_amounts, no_codes, no_rows, not_full_rows,
    small_amounts,
)


def no_swap(row):
    return swapped(row, [])


def first_swap(row):
    return swapped(row, [1] if len(row) > 1 else [])


def amounts_to_spread():
    return small_amounts() + full_amounts()


# Each function that is handed one list, by what it tells, and the lists that it takes.
LISTS = (
    (falls, many_rows), (standing, many_rows), (steps, many_rows), (no_swap, many_rows), (first_swap, many_rows),
    (code_of, many_rows), (turned, many_rows), (turned_back, many_rows), (inverse, full_rows), (row_of_code, codes),
    (spread, amounts_to_spread),
)
ALL = LISTS + ((pairs_out, many_rows), (fall_sum, many_rows), (shown, many_rows), (rank_of, full_rows))

# The lists that a function refuses, where they are others than those that are no rows.
REFUSED = (
    (inverse, NotFull, not_full_rows), (rank_of, NotFull, not_full_rows), (row_of_code, NoCode, no_codes),
    (spread, NoAmount, no_amounts),
)


class HandedIn(unittest.TestCase):
    def test_a_list_is_the_same_behind_the_call(self):
        for function, lists in ALL:
            for handed in lists():
                before = list(handed)
                function(handed)
                self.assertEqual(handed, before, function.__name__)

    def test_a_list_is_the_same_behind_no_row(self):
        for function, lists in ALL:
            if function not in (row_of_code, spread):
                self.check_the_same_behind_a_refusal(function, NoRow, no_rows())

    def test_a_list_is_the_same_behind_the_other_refusals(self):
        for function, refusal, lists in REFUSED:
            self.check_the_same_behind_a_refusal(function, refusal, lists())

    def check_the_same_behind_a_refusal(self, function, refusal, lists):
        for handed in lists:
            before = list(handed)
            check_refused(self, refusal, function, handed)
            self.assertTrue(handed == before, (function.__name__, brief(before)))

    def test_places_are_the_same_behind_the_call(self):
        row, places = [3, 2, 1], [1, 2, 1, 1]
        swapped(row, places)
        self.assertEqual((row, places), ([3, 2, 1], [1, 2, 1, 1]))

    def test_row_and_places_are_the_same_behind_no_place(self):
        for wrong in (0, 3, -1):
            row, places = [3, 2, 1], [1, 2, wrong, 1]
            check_refused(self, NoPlace, swapped, row, places)
            self.assertEqual((row, places), ([3, 2, 1], [1, 2, wrong, 1]))

    def test_places_are_the_same_behind_no_row(self):
        places = [1, 2, 0]
        check_refused(self, NoRow, swapped, [1, 2, 100], places)
        self.assertEqual(places, [1, 2, 0])


class Told(unittest.TestCase):
    def test_a_told_list_can_be_changed(self):
        for function, lists in LISTS:
            for handed in lists():
                before = list(handed)
                first = function(handed)
                kept = list(first)
                first.append(55)
                first[0] = 66
                self.assertEqual(handed, before, function.__name__)
                self.assertEqual(function(handed), kept, function.__name__)

    def test_a_row_told_by_its_rank_can_be_changed(self):
        for many in range(13):
            for rank in (0, math.factorial(many) // 2, math.factorial(many) - 1):
                first = row_at(many, rank)
                kept = list(first)
                first.append(55)
                first[0] = 66
                self.assertEqual(row_at(many, rank), kept)

    def test_a_row_that_was_read_can_be_changed(self):
        for row in many_rows():
            text = shown(row)
            first = read(text)
            first.append(55)
            first[0] = 66
            self.assertEqual(read(text), row)

    def test_changing_a_told_list_leaves_the_places(self):
        places = [1]
        swapped([1, 2], places).append(55)
        self.assertEqual(places, [1])

    def test_what_was_told_stays_when_the_list_is_changed_later(self):
        for function, lists in LISTS:
            for handed in lists():
                told = function(handed)
                kept = list(told)
                handed.append(55)
                handed[0] = 66
                self.assertEqual(told, kept, function.__name__)

    def test_what_was_told_stays_when_the_places_are_changed_later(self):
        places = [1]
        told = swapped([1, 2, 3], places)
        places[0] = 2
        places.append(1)
        self.assertEqual(told, [2, 1, 3])

    def test_a_changed_row_is_told_anew(self):
        row = [2, 1]
        self.assertEqual((pairs_out(row), fall_sum(row), falls(row)), (1, 1, [1]))
        self.assertEqual((standing(row), steps(row), swapped(row, [1])), ([1, 0], [1], [1, 2]))
        row[0] = 0
        self.assertEqual((pairs_out(row), fall_sum(row), falls(row)), (0, 0, []))
        self.assertEqual((standing(row), steps(row), swapped(row, [1])), ([0, 1], [], [1, 0]))

    def test_a_changed_list_is_told_anew(self):
        row = [0, 2, 1]
        self.assertEqual((inverse(row), code_of(row), rank_of(row)), ([0, 2, 1], [0, 1, 0], 1))
        self.assertEqual((turned(row), turned_back(row), shown(row)), ([2, 0, 1], [2, 0, 1], "0 2 1"))
        row.reverse()
        self.assertEqual((inverse(row), code_of(row), rank_of(row)), ([2, 0, 1], [1, 1, 0], 3))
        self.assertEqual((turned(row), turned_back(row), shown(row)), ([1, 2, 0], [1, 2, 0], "1 2 0"))
        code, amounts = [1, 0], [1, 1]
        self.assertEqual((row_of_code(code), spread(amounts)), ([1, 0], [1, 1]))
        code[0] = 0
        amounts[0] = 2
        self.assertEqual((row_of_code(code), spread(amounts)), ([0, 1], [1, 1, 1]))

    def test_a_refused_call_leaves_the_next_one_as_it_was(self):
        for _ in range(2):
            check_refused(self, NoRank, row_at, 3, 6)
            self.assertEqual(row_at(3, 5), [2, 1, 0])
            check_refused(self, NoCode, row_of_code, [1, 1])
            self.assertEqual(row_of_code([1, 0]), [1, 0])
            check_refused(self, NoAmount, spread, [6, 7])
            self.assertEqual(spread([1, 1]), [1, 1])


class NothingFromOutside(unittest.TestCase):
    def test_the_package_draws_from_itself_alone(self):
        files = sorted(pathlib.Path(shelfway.__file__).parent.glob("*.py"))
        self.assertTrue(files)
        for file in files:
            for node in ast.walk(ast.parse(file.read_text(encoding="utf-8"))):
                with self.subTest(file=file.name):
                    self.assertNotIsInstance(node, ast.Import)
                    if isinstance(node, ast.ImportFrom):
                        self.assertEqual(node.level, 0)
                        self.assertTrue(node.module.startswith("shelfway."))
                    if isinstance(node, ast.Name):
                        self.assertNotIn(node.id, ("open", "input", "eval", "exec", "id", "hash", "print"))
                        self.assertFalse(node.id.startswith("_"))
