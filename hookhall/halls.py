"""A hall: its places, the pieces that hang there, and what the pieces wish."""

from hookhall.errors import NameThere, NoPiece, NoPlace, TooMany

MOST_PLACES = 8
MOST_PIECES = 24


class Place:
    def __init__(self, kind, rule):
        self.kind = kind
        self.rule = rule


class Piece:
    def __init__(self, place, deed, by):
        self.place = place
        self.deed = deed
        self.by = by
        self.on = True
        self.ahead = []
        self.behind = []
        self.needs = []
        self.bars = []


class Hall:
    # Both dicts go by name: a dict keeps the order in which its keys came, which is the order of the hall.
    def __init__(self):
        self.places = {}
        self.pieces = {}

    def open_place(self, name, kind, rule):
        if name in self.places:
            raise NameThere(f"there is a place {name!r} already")
        if len(self.places) >= MOST_PLACES:
            raise TooMany("the hall has no room for another place")
        self.places[name] = Place(kind, rule)

    def hang(self, name, place, deed, by=None):
        if name in self.pieces:
            raise NameThere(f"a piece {name!r} hangs already")
        self.find_place(place)
        if by is not None:
            self.find_piece(by)
        if len(self.pieces) >= MOST_PIECES:
            raise TooMany("the hall has no room for another piece")
        self.pieces[name] = Piece(place, deed, by)

    def wish(self, name, ahead=None, behind=None, needs=None, bars=None):
        piece = self.find_piece(name)
        piece.ahead.extend(wished(ahead))
        piece.behind.extend(wished(behind))
        piece.needs.extend(wished(needs))
        piece.bars.extend(wished(bars))

    def has(self, name):
        return name in self.pieces

    def names(self):
        return list(self.pieces)

    def drop(self, name):
        self.find_piece(name)
        gone = {name: True}
        # One walk is enough: a piece comes later than the one that brought it.
        for other, piece in self.pieces.items():
            if piece.by in gone:
                gone[other] = True
        for other in gone:
            self.pieces.pop(other)
        return list(gone)

    def switch(self, name, on):
        piece = self.find_piece(name)
        piece.on = on

    def at(self, place):
        self.find_place(place)
        return [name for name, piece in self.pieces.items() if piece.place == place and piece.on]

    def find_place(self, name):
        if name not in self.places:
            raise NoPlace(f"there is no place {name!r}")
        return self.places[name]

    def find_piece(self, name):
        if name not in self.pieces:
            raise NoPiece(f"no piece {name!r} hangs")
        return self.pieces[name]


def wished(names):
    return [] if names is None else list(names)
