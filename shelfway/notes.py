"""Rows written as texts, and read again."""

from shelfway.errors import NoNote
from shelfway.rows import MOST_VOLUMES, check_row

FIGURES = "0123456789"
MOST_FIGURES = 2


def shown(row):
    check_row(row)
    return " ".join([str(volume) for volume in row])


# The figures are looked at ahead of `int`, which also takes signs, underscores and blanks.
def volume_of(word):
    if len(word) < 1 or len(word) > MOST_FIGURES:
        raise NoNote("a volume is written by one figure or two")
    for sign in word:
        if sign not in FIGURES:
            raise NoNote("a volume is written by figures alone")
    if len(word) > 1 and word[0] == "0":
        raise NoNote("of two figures the first one is no nought")
    return int(word)


def read(text):
    if text == "":
        return []
    words = text.split(" ")
    if len(words) > MOST_VOLUMES:
        raise NoNote("a row has at most 12 volumes")
    return [volume_of(word) for word in words]
