import itertools
import math
import unittest

from shelfway.counts import spread
from shelfway.errors import NoAmount
from tests.helper import (
    arranged, brief, check_refused, full_amounts, no_amounts, places_of_falls, places_out, small_amounts,
)


def volumes_of(amounts):
    return [number for number, amount in enumerate(amounts) for _ in range(amount)]


def tally(numbers):
    told = [0] * (max(numbers) + 1)
    for number in numbers:
        told[number] += 1
    return told


def number_of_rows(amounts):
    return math.factorial(sum(amounts)) // math.prod(math.factorial(amount) for amount in amounts)


def greatest_pairs(amounts):
    return sum(one * other for one, other in itertools.combinations(amounts, 2))


def product(one, other):
    told = [0] * (len(one) + len(other) - 1)
    for (at, many), (behind, times) in itertools.product(enumerate(one), enumerate(other)):
        told[at + behind] += many * times
    return told


def spread_of_unlike(many):
    """By pairs out of order, the rows of unlike volumes: the greatest one has none to all of the others behind it."""
    told = [1]
    for others in range(many):
        told = product(told, [1] * (others + 1))
    return told


class Spread(unittest.TestCase):
    def test_written_amounts(self):
        for amounts, told in (
            ([], [1]),
            ([0], [1]),
            ([0] * 6, [1]),
            ([1], [1]),
            ([12], [1]),
            ([0, 0, 0, 0, 0, 12], [1]),
            ([1, 1], [1, 1]),
            ([1, 0, 1], [1, 1]),
            ([2, 1], [1, 1, 1]),
            ([1, 2], [1, 1, 1]),
            ([2, 2], [1, 1, 2, 1, 1]),
            ([1, 1, 1], [1, 2, 2, 1]),
            ([1, 1, 1, 1], [1, 3, 5, 6, 5, 3, 1]),
            ([1, 11], [1] * 12),
            ([11, 1], [1] * 12),
        ):
            with self.subTest(amounts=amounts):
                self.assertEqual(spread(amounts), told)

    def test_all_rows_gone_through(self):
        for amounts in small_amounts():
            rows = arranged(volumes_of(amounts))
            with self.subTest(amounts=amounts):
                told = spread(amounts)
                self.assertIs(type(told), list)
                self.assertEqual(told, tally([len(places_out(row)) for row in rows]))
                self.assertEqual(told, tally([sum(places_of_falls(row)) for row in rows]))

    def test_twelve_volumes_together(self):
        for amounts in full_amounts():
            with self.subTest(amounts=amounts):
                told = spread(amounts)
                self.assertEqual(sum(told), number_of_rows(amounts))
                self.assertEqual(len(told), greatest_pairs(amounts) + 1)
                # A row read from its end has just those pairs of unlike volumes out of order that it had not before.
                self.assertEqual(told, told[::-1])
                self.assertEqual((told[0], told[-1]), (1, 1))

    def test_all_rows_of_twelve_gone_through(self):
        for amounts in ([6, 6], [0, 10, 0, 2], [9, 1, 2], [1, 0, 10, 0, 0, 1], [2, 8, 2]):
            rows = arranged(volumes_of(amounts))
            with self.subTest(amounts=amounts):
                self.assertEqual(spread(amounts), tally([len(places_out(row)) for row in rows]))
                self.assertEqual(spread(amounts), tally([sum(places_of_falls(row)) for row in rows]))

    def test_alike_volumes_told_apart(self):
        # Marks on alike volumes, put in any order, make each row of them a row of unlike ones, pairs added.
        for amounts in small_amounts() + full_amounts():
            with self.subTest(amounts=amounts):
                told = spread(amounts)
                for amount in amounts:
                    told = product(told, spread_of_unlike(amount))
                self.assertEqual(told, spread_of_unlike(sum(amounts)))

    def test_two_of_each_of_six_kinds(self):
        told = spread([2] * 6)
        self.assertEqual((len(told), sum(told)), (61, 7484400))
        self.assertEqual(told[:6], [1, 5, 20, 59, 154, 350])

    def test_the_order_of_the_amounts_does_not_matter(self):
        for amounts in itertools.permutations([0, 1, 2, 3, 4]):
            self.assertEqual(spread(list(amounts)), spread([0, 1, 2, 3, 4]))


class Refusals(unittest.TestCase):
    def test_no_amount(self):
        for amounts in no_amounts():
            with self.subTest(amounts=brief(amounts)):
                check_refused(self, NoAmount, spread, amounts)
