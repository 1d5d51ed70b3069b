"""The refusals of the program, one class for each."""


class ShelfError(ValueError):
    pass


class NoRow(ShelfError):
    pass


class NoPlace(ShelfError):
    pass


class NotFull(ShelfError):
    pass


class NoCode(ShelfError):
    pass


class NoRank(ShelfError):
    pass


class NoAmount(ShelfError):
    pass


class NoNote(ShelfError):
    pass
