"""How many rows of given volumes are out of order how far."""

from shelfway.errors import NoAmount
from shelfway.rows import MOST_VOLUMES

MOST_KINDS = 6


def check_amounts(amounts):
    if len(amounts) > MOST_KINDS:
        raise NoAmount("there are at most 6 amounts")
    for amount in amounts:
        if amount < 0 or amount > MOST_VOLUMES:
            raise NoAmount("an amount is a number from 0 to 12")
    if sum(amounts) > MOST_VOLUMES:
        raise NoAmount("amounts are together at most 12")


# A row of two kinds ends with a greater volume, which is out of order with none ahead of it,
# or with a lesser one, which is out of order with all the greater ones.
def spread_of_two(lesser, greater):
    if lesser == 0 or greater == 0:
        return [1]
    told = [0] * greater + spread_of_two(lesser - 1, greater)
    for pairs, many in enumerate(spread_of_two(lesser, greater - 1)):
        told[pairs] += many
    return told


# Each choice of the one goes with each of the other, and their pairs are added.
def both_spreads(one, other):
    told = [0] * (len(one) + len(other) - 1)
    for pairs, many in enumerate(one):
        for more_pairs, times in enumerate(other):
            told[pairs + more_pairs] += many * times
    return told


# How the lesser volumes stand among themselves and where the next kind stands among them are
# chosen apart, so kind by kind the spreads go together.
def spread(amounts):
    check_amounts(amounts)
    told = [1]
    lesser = 0
    for amount in amounts:
        told = both_spreads(told, spread_of_two(lesser, amount))
        lesser += amount
    return told
