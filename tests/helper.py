"""Rows, lists that are no rows, and plain readings of the document that the tests share."""

import copy
import itertools

from shelfway.errors import ShelfError

VERY_GREAT = 10 ** 5000

NAMED_ROWS = (
    [],
    [0],
    [99],
    [7],
    [0, 99],
    [99, 0],
    [5, 5],
    [30, 10, 20, 10],
    [3, 1, 4, 1, 5, 9, 2, 6],
    [2, 2, 1, 1, 0, 0],
    [4] * 12,
    [0] * 12,
    [99] * 12,
    list(range(12)),
    list(range(11, -1, -1)),
    [99, 98, 97, 96, 95, 94, 93, 92, 91, 90, 89, 88],
    [0, 99] * 6,
    [99, 0] * 6,
    [12, 50, 3, 3, 77, 50, 0, 99, 12, 8, 41, 3],
)


def many_rows():
    rows = [list(row) for row in NAMED_ROWS]
    for length, greatest in ((1, 3), (2, 3), (3, 3), (4, 3), (5, 2), (6, 1)):
        rows += [list(row) for row in itertools.product(range(greatest + 1), repeat=length)]
    rows += [list(row) for row in itertools.permutations(range(5))]
    for start in range(40):
        rows.append([(start * 37 + step * step * 13 + step * 29) % 100 for step in range(start % 13)])
    return rows


def no_rows():
    lists = [[0] * 13, list(range(13)), list(range(13, 0, -1)), [99] * 14, [1] * 25, [5] * 1000]
    for wrong in (100, 101, 1000, 10 ** 30, VERY_GREAT, -1, -2, -99, -100, -(10 ** 30), -VERY_GREAT):
        for length in (1, 2, 5, 12):
            for index in range(length):
                lists.append([7] * index + [wrong] + [7] * (length - index - 1))
        lists.append([wrong] * 13)
        lists.append([0] * 13 + [wrong])
    return lists


LONG_FULL_ROWS = (
    list(range(12)),
    list(range(11, -1, -1)),
    [1, 2, 3, 4, 5, 6, 7, 8, 9, 10, 11, 0],
    [11, 0, 1, 2, 3, 4, 5, 6, 7, 8, 9, 10],
    [1, 0, 3, 2, 5, 4, 7, 6, 9, 8, 11, 10],
    [0, 2, 4, 6, 8, 10, 1, 3, 5, 7, 9, 11],
    [7, 3, 11, 0, 9, 1, 10, 4, 2, 8, 6, 5],
    [4, 9, 2, 11, 6, 0, 8, 5, 10, 1, 7, 3],
    [5, 0, 10, 3, 8, 1, 11, 6, 2, 9, 4, 7],
)


def full_rows():
    """All full rows of up to five volumes, some of each greater length."""
    rows = [list(row) for length in range(6) for row in itertools.permutations(range(length))]
    for length in range(6, 12):
        rows += [[number for number in row if number < length] for row in LONG_FULL_ROWS]
    return rows + [list(row) for row in LONG_FULL_ROWS]


def not_full_rows():
    """Rows in which one number of a full row, or each of them, is put otherwise."""
    rows = [[number + 1 for number in range(length)] for length in range(1, 13)]
    rows += [[0, 0], [1, 1], [99], [99] * 12, [0] * 12, [0, 99], [99, 0], [0, 2], [2, 0], [88, 89, 90]]
    for full in full_rows():
        if len(full) in (1, 2, 3, 6, 11, 12):
            for index in range(len(full)):
                others = [full[index - 1]] if len(full) > 1 else []
                for wrong in others + [len(full), len(full) + 1, 50, 99]:
                    rows.append(full[:index] + [wrong] + full[index + 1:])
    return rows


def codes():
    """All codes of up to six numbers, some of each greater length."""
    lists = []
    for length in range(7):
        lists += [list(code) for code in itertools.product(*[range(top + 1) for top in tops(length)])]
    for length in range(7, 13):
        lists.append([0] * length)
        lists.append(tops(length))
        lists += [[top if index == at else 0 for index, top in enumerate(tops(length))] for at in range(length)]
        lists += [[(step * 7 + top * 5) % (top + 1) for top in tops(length)] for step in range(12)]
    return lists


def tops(length):
    """The greatest number of a code at each place: the last one nought, one more at each step ahead."""
    return list(range(length))[::-1]


def no_codes():
    lists = [[0] * length for length in range(13, 21)] + [tops(length) for length in range(13, 21)]
    for length in range(1, 13):
        for index, top in enumerate(tops(length)):
            for wrong in (top + 1, top + 2, 12, 99, 10 ** 30, VERY_GREAT, -1, -2, -length, -(10 ** 30), -VERY_GREAT):
                for good in ([0] * length, tops(length)):
                    lists.append(good[:index] + [wrong] + good[index + 1:])
    for wrong in (1, -1, VERY_GREAT, -VERY_GREAT):
        lists += [[0] * 12 + [wrong], [wrong] * 20, [wrong] + [0] * 19]
    return lists


def small_amounts():
    lists = [list(amounts) for kinds in range(4) for amounts in itertools.product(range(4), repeat=kinds)]
    lists = [amounts for amounts in lists if sum(amounts) <= 6]
    return lists + [
        [0] * 4, [0] * 6, [5], [12], [0, 0, 0, 0, 0, 12], [12, 0, 0, 0, 0, 0], [0, 12, 0],
        [1] * 5, [1] * 6, [2, 1, 1, 1, 1, 1], [1, 0, 2, 0, 1, 2], [2, 0, 0, 0, 0, 3], [0, 1, 3, 0, 2, 0],
        [3, 3, 2], [2, 2, 2, 1], [1, 11], [11, 1], [0, 10, 0, 0, 2, 0], [6, 6], [4, 1, 2],
    ]


def full_amounts():
    """Amounts of twelve volumes together."""
    return [[2] * 6, [4, 4, 4], [3, 3, 3, 3], [7, 1, 1, 1, 1, 1], [1, 1, 1, 1, 1, 7], [0, 5, 0, 4, 3, 0],
            [6, 6], [1, 2, 3, 3, 2, 1], [12], [0, 0, 12, 0, 0, 0], [0, 6, 0, 0, 0, 6]]


def no_amounts():
    lists = [[0] * kinds for kinds in range(7, 21)] + [[1] * kinds for kinds in range(7, 21)]
    lists += [[0] * (kinds - 1) + [1] for kinds in range(7, 21)]
    for kinds in range(1, 7):
        for index in range(kinds):
            for wrong in (-1, -2, -12, -13, -(10 ** 30), -VERY_GREAT, 13, 14, 99, 10 ** 30, VERY_GREAT):
                for good in (0, 2):
                    lists.append([good] * index + [wrong] + [good] * (kinds - index - 1))
    lists += [[12, 1], [1, 12], [6, 7], [7, 6], [12, 12], [12] * 6, [0, 12, 0, 0, 0, 1], [3, 2, 2, 2, 2, 2],
              [5, 4, 4], [1, 0, 6, 6], [13, -1], [-1, 13], [12, 1, -1], [-1, 12, 1], [14, -2, 0],
              [VERY_GREAT, -VERY_GREAT], [-VERY_GREAT, VERY_GREAT, 3], [VERY_GREAT] * 6, [-VERY_GREAT] * 20]
    return lists


def arranged(volumes):
    """All rows of just these volumes, each once."""
    if not volumes:
        return [[]]
    rows = []
    for first in sorted(set(volumes)):
        others = list(volumes)
        others.remove(first)
        rows += [[first] + row for row in arranged(others)]
    return rows


def places_out(row):
    """The pairs of places, counted from one, of which the earlier one bears the greater volume."""
    pairs = itertools.combinations(range(1, len(row) + 1), 2)
    return [(early, late) for early, late in pairs if row[early - 1] > row[late - 1]]


def places_of_falls(row):
    return [early for early, late in places_out(row) if late == early + 1]


def brief(value):
    """A name for a list in a test's report; Python does not write very great numbers."""
    return [item if abs(item) < 10 ** 40 else "very great" for item in value]


def check_refused(test, refusal, function, *arguments):
    """Refused with just that class, again in the same way, and with nothing changed that was handed in."""
    before = copy.deepcopy(arguments)
    words = []
    for _ in range(2):
        with test.assertRaises(ShelfError) as caught:
            function(*arguments)
        test.assertIs(type(caught.exception), refusal)
        words.append(caught.exception.args)
    test.assertTrue(words[0] == words[1], "the same call is refused in other words")
    test.assertTrue(arguments == before, "a refused call changed what was handed in")
