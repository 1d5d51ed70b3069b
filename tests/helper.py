"""Rows, lists that are no rows, and plain readings of the document that the tests share."""

import itertools

from shelfway.errors import ShelfError

VERY_GREAT = 10 ** 5000

NAMED_ROWS = (
    [],
    [0],
    [99],
    [7],
    [0, 99],
    [99, 0],
    [5, 5],
    [30, 10, 20, 10],
    [3, 1, 4, 1, 5, 9, 2, 6],
    [2, 2, 1, 1, 0, 0],
    [4] * 12,
    [0] * 12,
    [99] * 12,
    list(range(12)),
    list(range(11, -1, -1)),
    [99, 98, 97, 96, 95, 94, 93, 92, 91, 90, 89, 88],
    [0, 99] * 6,
    [99, 0] * 6,
    [12, 50, 3, 3, 77, 50, 0, 99, 12, 8, 41, 3],
)


def many_rows():
    rows = [list(row) for row in NAMED_ROWS]
    for length, greatest in ((1, 3), (2, 3), (3, 3), (4, 3), (5, 2), (6, 1)):
        rows += [list(row) for row in itertools.product(range(greatest + 1), repeat=length)]
    rows += [list(row) for row in itertools.permutations(range(5))]
    for start in range(40):
        rows.append([(start * 37 + step * step * 13 + step * 29) % 100 for step in range(start % 13)])
    return rows


def no_rows():
    lists = [[0] * 13, list(range(13)), list(range(13, 0, -1)), [99] * 14, [1] * 25, [5] * 1000]
    for wrong in (100, 101, 1000, 10 ** 30, VERY_GREAT, -1, -2, -99, -100, -(10 ** 30), -VERY_GREAT):
        for length in (1, 2, 5, 12):
            for index in range(length):
                lists.append([7] * index + [wrong] + [7] * (length - index - 1))
        lists.append([wrong] * 13)
        lists.append([0] * 13 + [wrong])
    return lists


def places_out(row):
    """The pairs of places, counted from one, of which the earlier one bears the greater volume."""
    pairs = itertools.combinations(range(1, len(row) + 1), 2)
    return [(early, late) for early, late in pairs if row[early - 1] > row[late - 1]]


def places_of_falls(row):
    return [early for early, late in places_out(row) if late == early + 1]


def brief(value):
    """A name for a list in a test's report; Python does not write very great numbers."""
    return [item if abs(item) < 10 ** 40 else "very great" for item in value]


def check_refused(test, refusal, function, *arguments):
    with test.assertRaises(ShelfError) as caught:
        function(*arguments)
    test.assertIs(type(caught.exception), refusal)
