"""Full rows: their inverses, codes and ranks. Places are counted from one."""

from shelfway.errors import NoCode, NoRank, NoRow, NotFull
from shelfway.rows import MOST_VOLUMES, check_row, lesser_behind


def check_full(row):
    check_row(row)
    if sorted(row) != list(range(len(row))):
        raise NotFull("a full row bears each number from 0 to below its length once")


def inverse(row):
    check_full(row)
    return [row.index(number) for number in range(len(row))]


def code_of(row):
    check_row(row)
    return [lesser_behind(row, place) for place in range(1, len(row) + 1)]


def check_code(code):
    if len(code) > MOST_VOLUMES:
        raise NoCode("a code has at most 12 numbers")
    for place, number in enumerate(code, start=1):
        if number < 0 or number > len(code) - place:
            raise NoCode("a number of a code is from 0 to how many places are behind it")


# Of the numbers that are not yet used, as many are less than the wanted one as the code tells:
# each of them comes later in the row.
def row_of_code(code):
    check_code(code)
    unused = list(range(len(code)))
    row = []
    for number in code:
        row.append(unused.pop(number))
    return row


# A code read as figures is the rank: the figure of a place goes from 0 to how many places are
# behind it, so a figure's base is one more than that.
def rank_of(row):
    check_full(row)
    rank = 0
    for place, number in enumerate(code_of(row), start=1):
        rank = rank * (len(row) - place + 1) + number
    return rank


def rows_of_length(many):
    product = 1
    for number in range(1, many + 1):
        product = product * number
    return product


# The length goes ahead of the rank: only of a good length is there a number of rows to hold it against.
def check_rank(many, rank):
    if many < 0 or many > MOST_VOLUMES:
        raise NoRow("a length is a number from 0 to 12")
    if rank < 0 or rank >= rows_of_length(many):
        raise NoRank("a rank is a number from 0 to below the number of full rows of that length")


def row_at(many, rank):
    check_rank(many, rank)
    code = []
    left = rank
    for base in range(1, many + 1):
        code.append(left % base)
        left = left // base
    code.reverse()
    return row_of_code(code)
