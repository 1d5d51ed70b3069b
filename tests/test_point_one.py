"""Point 1: nothing that is handed in is changed or hung on, told lists are new, no clock, chance or files."""

import ast
import pathlib
import unittest

import shelfway
from shelfway.errors import NoPlace, NoRow
from shelfway.moves import steps, swapped
from shelfway.rows import fall_sum, falls, pairs_out, standing
from tests.helper import brief, check_refused, many_rows, no_rows


def no_swap(row):
    return swapped(row, [])


def first_swap(row):
    return swapped(row, [1] if len(row) > 1 else [])


LISTS = (falls, standing, steps, no_swap, first_swap)
ALL = LISTS + (pairs_out, fall_sum)


class HandedIn(unittest.TestCase):
    def test_a_row_is_the_same_behind_the_call(self):
        for function in ALL:
            for row in many_rows():
                before = list(row)
                function(row)
                self.assertEqual(row, before, function.__name__)

    def test_a_list_is_the_same_behind_no_row(self):
        for function in ALL:
            for row in no_rows():
                before = list(row)
                check_refused(self, NoRow, function, row)
                self.assertTrue(row == before, (function.__name__, brief(before)))

    def test_places_are_the_same_behind_the_call(self):
        row, places = [3, 2, 1], [1, 2, 1, 1]
        swapped(row, places)
        self.assertEqual((row, places), ([3, 2, 1], [1, 2, 1, 1]))

    def test_row_and_places_are_the_same_behind_no_place(self):
        for wrong in (0, 3, -1):
            row, places = [3, 2, 1], [1, 2, wrong, 1]
            check_refused(self, NoPlace, swapped, row, places)
            self.assertEqual((row, places), ([3, 2, 1], [1, 2, wrong, 1]))

    def test_places_are_the_same_behind_no_row(self):
        places = [1, 2, 0]
        check_refused(self, NoRow, swapped, [1, 2, 100], places)
        self.assertEqual(places, [1, 2, 0])


class Told(unittest.TestCase):
    def test_a_told_list_can_be_changed(self):
        for function in LISTS:
            for row in many_rows():
                first = function(row)
                kept = list(first)
                first.append(55)
                first[0] = 66
                self.assertEqual(function(row), kept, function.__name__)

    def test_changing_a_told_list_leaves_what_was_handed_in(self):
        for function in LISTS:
            for row in many_rows():
                before = list(row)
                function(row).append(55)
                self.assertEqual(row, before, function.__name__)
        places = [1]
        swapped([1, 2], places).append(55)
        self.assertEqual(places, [1])

    def test_what_was_told_stays_when_the_row_is_changed_later(self):
        for function in LISTS:
            for row in many_rows():
                told = function(row)
                kept = list(told)
                row.append(55)
                row[0] = 66
                self.assertEqual(told, kept, function.__name__)

    def test_what_was_told_stays_when_the_places_are_changed_later(self):
        places = [1]
        told = swapped([1, 2, 3], places)
        places[0] = 2
        places.append(1)
        self.assertEqual(told, [2, 1, 3])

    def test_a_changed_row_is_told_anew(self):
        row = [2, 1]
        self.assertEqual((pairs_out(row), fall_sum(row), falls(row)), (1, 1, [1]))
        self.assertEqual((standing(row), steps(row), swapped(row, [1])), ([1, 0], [1], [1, 2]))
        row[0] = 0
        self.assertEqual((pairs_out(row), fall_sum(row), falls(row)), (0, 0, []))
        self.assertEqual((standing(row), steps(row), swapped(row, [1])), ([0, 1], [], [1, 0]))


class NothingFromOutside(unittest.TestCase):
    def test_the_package_draws_from_itself_alone(self):
        files = sorted(pathlib.Path(shelfway.__file__).parent.glob("*.py"))
        self.assertTrue(files)
        for file in files:
            for node in ast.walk(ast.parse(file.read_text(encoding="utf-8"))):
                with self.subTest(file=file.name):
                    self.assertNotIsInstance(node, ast.Import)
                    if isinstance(node, ast.ImportFrom):
                        self.assertEqual(node.level, 0)
                        self.assertTrue(node.module.startswith("shelfway."))
                    if isinstance(node, ast.Name):
                        self.assertNotIn(node.id, ("open", "input", "eval", "exec", "id", "hash", "print"))
                        self.assertFalse(node.id.startswith("_"))
