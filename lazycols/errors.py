"""The refusals: one class for each, all of them under ColsError."""


class ColsError(ValueError):
    pass


class NoName(ColsError):
    pass


class NoValue(ColsError):
    pass


class NoTable(ColsError):
    pass


class NoColumn(ColsError):
    pass


class NoPlace(ColsError):
    pass


class NoSize(ColsError):
    pass


class NoText(ColsError):
    pass


class NoRow(ColsError):
    pass


class NoBack(ColsError):
    pass


class TooMuch(ColsError):
    pass


class Ruled(ColsError):
    pass


class Ring(ColsError):
    # The base gets words alone: else the error would hold the asker's list beside its own.
    def __init__(self, ring):
        ColsError.__init__(self, "the rules would go in a ring")
        self.ring = list(ring)


class Nobody(ColsError):
    pass


class Several(ColsError):
    pass
