"""Which pieces may stand together, and what a piece needs to stand."""

from hookhall.errors import Barred


def lacks(hall, names):
    told = []
    # The hall is walked, not the names handed in, since the tuples go in the order in which the pieces came.
    for one in hall.names():
        if one in names:
            piece = hall.find_piece(one)
            told.extend([("needs", one, other) for other in piece.needs if other not in names])
            told.extend([("bars", one, other) for other in piece.bars if other in names])
    return told


def fits(hall, names):
    return lacks(hall, names) == []


def with_needs(hall, name):
    gathered = gather_needs(hall, name)
    names = [one for one in hall.names() if one in gathered]
    told = lacks(hall, names)
    if told:
        # All needs are among them, so that what is told first is a bar.
        raise Barred(told[0][1], told[0][2])
    return names


def gather_needs(hall, name):
    gathered = {}
    left = [name]
    while left:
        one = left.pop()
        if one not in gathered:
            piece = hall.find_piece(one)
            gathered[one] = True
            left.extend(piece.needs)
    return gathered
