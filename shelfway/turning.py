"""The turning of rows, which leads from the fall sum to the pairs out of order, and its way back."""

from shelfway.rows import check_row


# A cut goes behind the volumes that lie on the same side of the bound as the given one.
def same_side(volume, other, bound):
    return (volume <= bound) == (other <= bound)


# The last volume lies on its own side, so the last cut leaves nothing over.
def lasts_put_ahead(row, bound):
    told = []
    others = []
    for volume in row:
        if same_side(volume, row[-1], bound):
            told = told + [volume] + others
            others = []
        else:
            others.append(volume)
    return told


# Each piece now begins with the volume that was its last, so the first volume of all tells the
# side, and from the end on a piece is known to be whole as soon as its first volume comes.
def firsts_put_behind(row, bound):
    told = []
    others = []
    for volume in reversed(row):
        if same_side(volume, row[0], bound):
            told = others + [volume] + told
            others = []
        else:
            others = [volume] + others
    return told


def turned(row):
    check_row(row)
    told = []
    for volume in row:
        told = lasts_put_ahead(told, volume) + [volume]
    return told


def turned_back(row):
    check_row(row)
    told = []
    left = list(row)
    while len(left) > 0:
        volume = left[-1]
        told = [volume] + told
        left = firsts_put_behind(left[:-1], volume)
    return told
