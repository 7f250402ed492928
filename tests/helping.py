"""What the tests of several modules share."""

import copy
import unittest

from hookhall.halls import Hall

LETTERS = "abcdefghijklmnopqrstuvwxyz"
KINDS = ("all", "first", "chain", "round")
RULES = ("hold", "hand")
NOTHING = ("none",)


def hall_with(places="p", pieces=""):
    # Places and pieces are given as letters; all pieces hang at the first place.
    hall = Hall()
    for place in places:
        hall.open_place(place, "all", "hold")
    for piece in pieces:
        hall.hang(piece, places[0], NOTHING)
    return hall


def hall_of(kind, rule, *deeds):
    # One place p; the pieces are called a, b, c and so on.
    hall = Hall()
    hall.open_place("p", kind, rule)
    for name, deed in zip(LETTERS, deeds):
        hall.hang(name, "p", deed)
    return hall


def picture(hall):
    # All that the hall holds, in its order, so that any change shows.
    places = [(name, vars(place)) for name, place in hall.places.items()]
    pieces = [(name, vars(piece)) for name, piece in hall.pieces.items()]
    return copy.deepcopy((places, pieces))


class HallTest(unittest.TestCase):
    def refused(self, hall, refusal, deed, *handed, **named):
        before = picture(hall)
        with self.assertRaises(refusal) as caught:
            deed(*handed, **named)
        self.assertIs(type(caught.exception), refusal)
        self.assertEqual(picture(hall), before)
        return caught.exception
