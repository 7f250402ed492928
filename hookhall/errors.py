"""The refusals of a hall, one class for each, all under HallError."""


class HallError(ValueError):
    pass


class NameThere(HallError):
    pass


class NoPlace(HallError):
    pass


class NoPiece(HallError):
    pass


class TooMany(HallError):
    pass


class NoAnswer(HallError):
    pass


class Ring(HallError):
    def __init__(self, ring):
        HallError.__init__(self, f"the wishes go round: {ring!r}")
        # A copy, since nothing that is handed in is kept.
        self.ring = list(ring)


class Barred(HallError):
    def __init__(self, one, other):
        HallError.__init__(self, f"{one!r} bars {other!r}")
        self.one = one
        self.other = other


class DeedFault(HallError):
    def __init__(self, piece, code):
        # The code stays out of the words: a number may be too long for Python to write out.
        HallError.__init__(self, f"the deed of {piece!r} fell")
        self.piece = piece
        self.code = code
