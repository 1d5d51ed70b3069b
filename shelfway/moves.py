"""Swaps of neighbours in a row, and the fewest of them that put it in order."""

from shelfway.errors import NoPlace
from shelfway.rows import check_row, falls


def check_places(row, places):
    for place in places:
        if place < 1 or place >= len(row):
            raise NoPlace("a swap wants a place of the row that has a next one")


def swapped(row, places):
    check_row(row)
    check_places(row, places)
    moved = list(row)
    for place in places:
        volume = moved[place - 1]
        moved[place - 1] = moved[place]
        moved[place] = volume
    return moved


# A swap at a fall leaves just one pair less out of order, and no swap takes away more:
# so any fall will do, and no way is shorter.
def steps(row):
    places = []
    now = row
    left = falls(now)
    while len(left) > 0:
        places.append(left[0])
        now = swapped(now, [left[0]])
        left = falls(now)
    return places
