"""Rows of volumes: what a row is, and how far it is out of order. Places are counted from one."""

from shelfway.errors import NoRow

MOST_VOLUMES = 12
GREATEST_VOLUME = 99


# The words of a refusal leave the number out: Python may refuse to write a very great one.
def check_row(row):
    if len(row) > MOST_VOLUMES:
        raise NoRow("a row has at most 12 volumes")
    for volume in row:
        if volume < 0 or volume > GREATEST_VOLUME:
            raise NoRow("a volume is a number from 0 to 99")


def lesser_behind(row, place):
    return len([volume for volume in row[place:] if volume < row[place - 1]])


def pairs_out(row):
    check_row(row)
    return sum([lesser_behind(row, place) for place in range(1, len(row))])


def falls(row):
    check_row(row)
    return [place for place in range(1, len(row)) if row[place - 1] > row[place]]


def fall_sum(row):
    return sum(falls(row))


# Alike volumes count only from ahead, so that no two places get the same number.
def standing_at(row, place):
    own = row[place - 1]
    less = [volume for volume in row if volume < own]
    alike_ahead = [volume for volume in row[:place - 1] if volume == own]
    return len(less) + len(alike_ahead)


def standing(row):
    check_row(row)
    return [standing_at(row, place) for place in range(1, len(row) + 1)]
