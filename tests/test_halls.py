import inspect
import random
import unittest

from hookhall.errors import NameThere, NoPiece, NoPlace, TooMany
from hookhall.halls import Hall
from tests.helping import KINDS, LETTERS, NOTHING, RULES, HallTest, hall_with, picture


def wishes(hall, name):
    piece = hall.pieces[name]
    return piece.ahead, piece.behind, piece.needs, piece.bars


class Interface(HallTest):
    def test_arguments_by_name_and_defaults(self):
        told = {
            "open_place": "(self, name, kind, rule)",
            "hang": "(self, name, place, deed, by=None)",
            "wish": "(self, name, ahead=None, behind=None, needs=None, bars=None)",
            "has": "(self, name)",
            "names": "(self)",
            "drop": "(self, name)",
            "switch": "(self, name, on)",
            "at": "(self, place)",
        }
        for name, arguments in told.items():
            with self.subTest(name=name):
                self.assertEqual(str(inspect.signature(getattr(Hall, name))), arguments)

    def test_these_answer_none(self):
        hall = Hall()
        self.assertIsNone(hall.open_place("p", "all", "hold"))
        self.assertIsNone(hall.hang("a", "p", NOTHING))
        self.assertIsNone(hall.hang("b", "p", NOTHING, "a"))
        self.assertIsNone(hall.wish("a", ["b"], ["b"], ["b"], ["b"]))
        self.assertIsNone(hall.wish("a"))
        self.assertIsNone(hall.switch("a", False))
        self.assertIsNone(hall.switch("a", True))

    def test_a_new_hall_is_empty(self):
        hall = Hall()
        self.assertEqual(hall.names(), [])
        self.assertIs(hall.has("a"), False)
        self.refused(hall, NoPlace, hall.at, "p")


class TheHall(HallTest):
    def test_pieces_in_the_order_in_which_they_came(self):
        hall = hall_with("pq")
        for name, place in (("z", "q"), ("a", "p"), ("m", "q"), ("b", "p")):
            hall.hang(name, place, NOTHING)
        self.assertEqual(hall.names(), ["z", "a", "m", "b"])
        self.assertEqual(hall.at("p"), ["a", "b"])
        self.assertEqual(hall.at("q"), ["z", "m"])

    def test_one_that_comes_again_comes_last(self):
        hall = hall_with("p", "abc")
        hall.drop("a")
        hall.hang("a", "p", NOTHING)
        self.assertEqual(hall.names(), ["b", "c", "a"])
        self.assertEqual(hall.at("p"), ["b", "c", "a"])

    def test_names_is_fresh(self):
        hall = hall_with("p", "ab")
        hall.names().append("x")
        hall.names().clear()
        self.assertEqual(hall.names(), ["a", "b"])
        self.assertIs(hall.has("x"), False)

    def test_names_handed_back_do_not_follow_the_hall(self):
        hall = hall_with("p", "ab")
        before = (hall.names(), hall.at("p"))
        hall.hang("c", "p", NOTHING)
        hall.drop("a")
        self.assertEqual(before, (["a", "b"], ["a", "b"]))
        self.assertIs(type(before[0]), list)
        self.assertIs(type(before[1]), list)

    def test_at_is_fresh(self):
        hall = hall_with("p", "ab")
        hall.at("p").append("x")
        hall.at("p").clear()
        self.assertEqual(hall.at("p"), ["a", "b"])

    def test_what_drop_hands_back_is_fresh(self):
        hall = hall_with("p", "abc")
        gone = hall.drop("b")
        self.assertIs(type(gone), list)
        gone.append("a")
        self.assertEqual(hall.names(), ["a", "c"])
        self.assertEqual(hall.drop("a"), ["a"])
        self.assertEqual(gone, ["b", "a"])

    def test_two_halls_share_nothing(self):
        one = hall_with("pq", "ab")
        other = hall_with("p", "a")
        before = picture(other)
        one.wish("a", ["x"], ["y"], ["z"], ["w"])
        one.switch("a", False)
        one.drop("b")
        self.assertEqual(picture(other), before)
        self.refused(other, NoPlace, other.at, "q")
        self.assertEqual(other.at("p"), ["a"])
        self.assertEqual(Hall().names(), [])

    def test_two_halls_have_their_own_room(self):
        full = hall_with(LETTERS[:8], LETTERS[:24])
        other = hall_with(LETTERS[:8], LETTERS[:24])
        self.assertEqual(full.names(), other.names())

    def test_names_beyond_the_bound_are_not_refused(self):
        # Point 1 bounds names, but tells no refusal for it.
        for name in ("", "a" * 13, "a" * 40):
            with self.subTest(name=name):
                hall = Hall()
                hall.open_place(name, "all", "hold")
                hall.hang(name, name, ("add", 10 ** 5000))
                hall.hang("b", name, ("add", -1), name)
                self.assertEqual(hall.at(name), [name, "b"])
                self.assertEqual(hall.drop(name), [name, "b"])


class Places(HallTest):
    def test_each_kind_with_each_rule(self):
        hall = Hall()
        for kind in KINDS:
            for rule in RULES:
                hall.open_place(kind + rule, kind, rule)
                self.assertEqual(hall.at(kind + rule), [])
        kept = [(name, place.kind, place.rule) for name, place in hall.places.items()]
        self.assertEqual(kept, [(kind + rule, kind, rule) for kind in KINDS for rule in RULES])

    def test_name_there(self):
        hall = hall_with("p", "a")
        self.refused(hall, NameThere, hall.open_place, "p", "all", "hold")
        self.refused(hall, NameThere, hall.open_place, "p", "chain", "hand")

    def test_eight_and_no_more(self):
        hall = hall_with(LETTERS[:7])
        hall.open_place("h", "first", "hand")
        self.refused(hall, TooMany, hall.open_place, "i", "all", "hold")
        for place in LETTERS[:8]:
            self.assertEqual(hall.at(place), [])
        self.refused(hall, NoPlace, hall.at, "i")

    def test_name_there_in_a_full_hall(self):
        hall = hall_with(LETTERS[:8])
        for place in LETTERS[:8]:
            self.refused(hall, NameThere, hall.open_place, place, "all", "hold")

    def test_pieces_do_not_count_as_places(self):
        hall = hall_with("p", LETTERS[:24])
        for place in "abcdefg":
            hall.open_place(place, "all", "hold")
        self.refused(hall, TooMany, hall.open_place, "q", "all", "hold")

    def test_a_place_may_have_the_name_of_a_piece(self):
        hall = hall_with("p", "a")
        hall.open_place("a", "all", "hold")
        hall.hang("b", "a", NOTHING)
        self.assertEqual(hall.at("a"), ["b"])
        self.assertEqual(hall.at("p"), ["a"])

    def test_a_piece_may_have_the_name_of_a_place(self):
        hall = hall_with("pq")
        hall.hang("q", "p", NOTHING)
        hall.hang("p", "p", NOTHING)
        self.assertEqual(hall.at("p"), ["q", "p"])
        self.assertEqual(hall.drop("p"), ["p"])
        self.assertEqual(hall.at("p"), ["q"])

    def test_a_place_is_no_piece_and_a_piece_no_place(self):
        hall = hall_with("p", "a")
        self.assertIs(hall.has("p"), False)
        self.refused(hall, NoPlace, hall.at, "a")
        self.refused(hall, NoPlace, hall.hang, "b", "a", NOTHING)
        self.refused(hall, NoPiece, hall.hang, "b", "p", NOTHING, "p")
        self.refused(hall, NoPiece, hall.drop, "p")


class Hanging(HallTest):
    def test_each_deed_hangs_and_is_on(self):
        hall = hall_with("p")
        deeds = (("add", 3), ("say", -10 ** 30), ("none",), ("fail", 0))
        for name, deed in zip("abcd", deeds):
            hall.hang(name, "p", deed)
        self.assertEqual(hall.at("p"), ["a", "b", "c", "d"])
        self.assertEqual([piece.deed for piece in hall.pieces.values()], list(deeds))

    def test_has(self):
        hall = hall_with("p", "a")
        self.assertIs(hall.has("a"), True)
        self.assertIs(hall.has("b"), False)

    def test_name_there(self):
        hall = hall_with("pq", "a")
        self.refused(hall, NameThere, hall.hang, "a", "p", NOTHING)
        self.refused(hall, NameThere, hall.hang, "a", "q", ("say", 1))

    def test_name_there_where_it_is_off(self):
        hall = hall_with("p", "a")
        hall.switch("a", False)
        self.refused(hall, NameThere, hall.hang, "a", "p", NOTHING)

    def test_no_place(self):
        hall = hall_with("p")
        self.refused(hall, NoPlace, hall.hang, "a", "q", NOTHING)

    def test_no_piece(self):
        hall = hall_with("p", "a")
        self.refused(hall, NoPiece, hall.hang, "b", "p", NOTHING, "x")
        self.refused(hall, NoPiece, hall.hang, "b", "p", NOTHING, by="")

    def test_one_that_brings_itself(self):
        hall = hall_with("p", "a")
        self.refused(hall, NoPiece, hall.hang, "b", "p", NOTHING, "b")
        self.refused(hall, NameThere, hall.hang, "a", "p", NOTHING, "a")

    def test_one_that_is_off_may_bring(self):
        hall = hall_with("p", "a")
        hall.switch("a", False)
        hall.hang("b", "p", NOTHING, "a")
        self.assertEqual(hall.at("p"), ["b"])

    def test_one_may_bring_to_another_place(self):
        hall = hall_with("pq", "a")
        hall.hang("b", "q", NOTHING, "a")
        self.assertEqual(hall.at("q"), ["b"])
        self.assertEqual(hall.drop("a"), ["a", "b"])

    def test_none_brings_it(self):
        hall = hall_with("p", "a")
        hall.hang("b", "p", NOTHING, None)
        self.assertEqual(hall.drop("a"), ["a"])
        self.assertEqual(hall.names(), ["b"])

    def test_the_24th_and_the_25th(self):
        hall = hall_with("pq", LETTERS[:23])
        hall.hang("x", "q", NOTHING, "a")
        self.assertEqual(hall.names(), list(LETTERS[:24]))
        self.refused(hall, TooMany, hall.hang, "y", "p", NOTHING)
        self.refused(hall, TooMany, hall.hang, "y", "q", NOTHING, "a")
        self.assertIs(hall.has("y"), False)

    def test_those_that_are_off_take_room(self):
        hall = hall_with("p", LETTERS[:24])
        for name in LETTERS[:24]:
            hall.switch(name, False)
        self.refused(hall, TooMany, hall.hang, "y", "p", NOTHING)

    def test_one_more_behind_one_taken_out(self):
        hall = hall_with("p", LETTERS[:24])
        self.assertEqual(hall.drop("c"), ["c"])
        hall.hang("y", "p", NOTHING)
        self.assertEqual(hall.names(), ["a", "b"] + list(LETTERS[3:24]) + ["y"])
        self.refused(hall, TooMany, hall.hang, "z", "p", NOTHING)

    def test_room_for_all_that_went_along(self):
        hall = hall_with("p", "a")
        for name in LETTERS[1:24]:
            hall.hang(name, "p", NOTHING, "a")
        self.assertEqual(hall.drop("a"), list(LETTERS[:24]))
        for name in LETTERS[:24]:
            hall.hang(name, "p", NOTHING)
        self.refused(hall, TooMany, hall.hang, "y", "p", NOTHING)

    def test_refusals_in_their_order(self):
        # For each mix of what is wrong, the first one in the order of point 3 is due.
        for there in (True, False):
            for placeless in (True, False):
                for unbrought in (True, False):
                    for full in (True, False):
                        with self.subTest(there=there, placeless=placeless, unbrought=unbrought, full=full):
                            self.one_mix(there, placeless, unbrought, full)

    def one_mix(self, there, placeless, unbrought, full):
        hall = hall_with("p", LETTERS[:24] if full else "ab")
        name = "a" if there else "z"
        place = "q" if placeless else "p"
        by = "y" if unbrought else "b"
        for wrong, refusal in ((there, NameThere), (placeless, NoPlace), (unbrought, NoPiece), (full, TooMany)):
            if wrong:
                self.refused(hall, refusal, hall.hang, name, place, NOTHING, by)
                return
        hall.hang(name, place, NOTHING, by)
        self.assertEqual(hall.names(), ["a", "b", "z"])


class Dropping(HallTest):
    def test_one_alone(self):
        hall = hall_with("p", "abc")
        self.assertEqual(hall.drop("b"), ["b"])
        self.assertEqual(hall.names(), ["a", "c"])
        self.assertEqual(hall.at("p"), ["a", "c"])
        self.assertIs(hall.has("b"), False)

    def test_no_piece(self):
        hall = hall_with("p", "a")
        self.refused(hall, NoPiece, hall.drop, "b")
        hall.drop("a")
        self.refused(hall, NoPiece, hall.drop, "a")

    def test_all_that_it_brought_and_so_on(self):
        hall = hall_with("pq", "xa")
        hall.hang("c", "q", NOTHING, "a")
        hall.hang("y", "p", NOTHING, "x")
        hall.hang("b", "p", NOTHING, "a")
        hall.hang("e", "q", NOTHING, "b")
        hall.hang("d", "p", NOTHING, "c")
        hall.hang("z", "p", NOTHING, "y")
        self.assertEqual(hall.drop("a"), ["a", "c", "b", "e", "d"])
        self.assertEqual(hall.names(), ["x", "y", "z"])
        self.assertEqual(hall.at("q"), [])
        self.assertEqual(hall.drop("x"), ["x", "y", "z"])

    def test_the_one_that_brought_it_stays(self):
        hall = hall_with("p", "a")
        hall.hang("b", "p", NOTHING, "a")
        hall.hang("c", "p", NOTHING, "a")
        self.assertEqual(hall.drop("b"), ["b"])
        self.assertEqual(hall.names(), ["a", "c"])
        self.assertEqual(hall.drop("a"), ["a", "c"])

    def test_a_long_row(self):
        hall = hall_with("p", "a")
        for number in range(1, 24):
            hall.hang(LETTERS[number], "p", NOTHING, LETTERS[number - 1])
        self.assertEqual(hall.drop("l"), list(LETTERS[11:24]))
        self.assertEqual(hall.drop("a"), list(LETTERS[:11]))
        self.assertEqual(hall.names(), [])

    def test_those_that_are_off_go_too(self):
        hall = hall_with("p", "a")
        hall.hang("b", "p", NOTHING, "a")
        hall.hang("c", "p", NOTHING, "b")
        hall.switch("b", False)
        self.assertEqual(hall.drop("a"), ["a", "b", "c"])

    def test_a_later_one_of_the_same_name_is_on(self):
        hall = hall_with("p", "a")
        hall.switch("a", False)
        hall.drop("a")
        hall.hang("a", "p", NOTHING)
        self.assertEqual(hall.at("p"), ["a"])

    def test_also_where_it_went_along_with_another(self):
        hall = hall_with("p", "a")
        hall.hang("b", "p", NOTHING, "a")
        hall.switch("b", False)
        hall.wish("b", ["x"], ["x"], ["x"], ["x"])
        hall.drop("a")
        hall.hang("b", "p", NOTHING)
        self.assertEqual(hall.at("p"), ["b"])
        self.assertEqual(wishes(hall, "b"), ([], [], [], []))

    def test_a_later_one_of_the_same_name_has_no_wishes(self):
        hall = hall_with("p", "a")
        hall.wish("a", ["b"], ["c"], ["d"], ["e"])
        hall.drop("a")
        hall.hang("a", "p", NOTHING)
        self.assertEqual(wishes(hall, "a"), ([], [], [], []))

    def test_a_later_one_of_the_same_name_was_brought_by_none(self):
        hall = hall_with("p", "a")
        hall.hang("b", "p", NOTHING, "a")
        hall.drop("b")
        hall.hang("b", "p", NOTHING)
        self.assertEqual(hall.drop("a"), ["a"])
        self.assertEqual(hall.names(), ["b"])

    def test_a_later_one_of_the_same_name_was_brought_by_the_one_told_then(self):
        hall = hall_with("p", "ac")
        hall.hang("b", "p", NOTHING, "a")
        hall.drop("b")
        hall.hang("b", "p", NOTHING, "c")
        self.assertEqual(hall.drop("a"), ["a"])
        self.assertEqual(hall.drop("c"), ["c", "b"])

    def test_a_later_one_of_the_same_name_brought_nothing_yet(self):
        hall = hall_with("p", "a")
        hall.hang("b", "p", NOTHING, "a")
        hall.drop("a")
        hall.hang("b", "p", NOTHING)
        hall.hang("a", "p", NOTHING, "b")
        self.assertEqual(hall.drop("a"), ["a"])
        self.assertEqual(hall.names(), ["b"])

    def test_a_later_one_may_hang_elsewhere(self):
        hall = hall_with("pq", "a")
        hall.drop("a")
        hall.hang("a", "q", ("say", 5))
        self.assertEqual(hall.at("p"), [])
        self.assertEqual(hall.at("q"), ["a"])

    def test_wishes_of_others_for_it_stay(self):
        hall = hall_with("p", "ab")
        hall.wish("a", ["b"], ["b"], ["b"], ["b"])
        hall.drop("b")
        self.assertEqual(wishes(hall, "a"), (["b"], ["b"], ["b"], ["b"]))


class Wishing(HallTest):
    def test_none_at_first(self):
        hall = hall_with("p", "a")
        self.assertEqual(wishes(hall, "a"), ([], [], [], []))

    def test_each_sort_goes_where_it_belongs(self):
        hall = hall_with("p", "abcde")
        hall.wish("a", ["b"], ["c"], ["d"], ["e"])
        self.assertEqual(wishes(hall, "a"), (["b"], ["c"], ["d"], ["e"]))
        hall.wish("b", bars=["a"], needs=["c"], behind=["d"], ahead=["e"])
        self.assertEqual(wishes(hall, "b"), (["e"], ["d"], ["c"], ["a"]))
        self.assertEqual(wishes(hall, "c"), ([], [], [], []))

    def test_none_is_for_none(self):
        hall = hall_with("p", "a")
        hall.wish("a")
        hall.wish("a", None, None, None, None)
        hall.wish("a", [], (), [], ())
        self.assertEqual(wishes(hall, "a"), ([], [], [], []))
        hall.wish("a", needs=["b"])
        hall.wish("a", None, None, None, ["c"])
        self.assertEqual(wishes(hall, "a"), ([], [], ["b"], ["c"]))

    def test_lists_and_tuples(self):
        hall = hall_with("p", "a")
        hall.wish("a", ["b", "c"], ("d", "e"), ("f",), ["g"])
        self.assertEqual(wishes(hall, "a"), (["b", "c"], ["d", "e"], ["f"], ["g"]))

    def test_names_that_do_not_hang_and_its_own(self):
        hall = hall_with("p", "a")
        hall.wish("a", ["a", "x"], ["a", "x"], ["a", "x"], ["a", "x"])
        self.assertEqual(wishes(hall, "a"), (["a", "x"],) * 4)
        self.assertEqual(hall.names(), ["a"])
        self.assertEqual(hall.at("p"), ["a"])

    def test_more_and_more_behind_those_it_has(self):
        hall = hall_with("p", "a")
        hall.wish("a", ["z"], ["y"], ["x"], ["w"])
        hall.wish("a", ("b", "a"), ["b"], (), None)
        hall.wish("a", ["z"], None, ["x"], ["w", "w"])
        self.assertEqual(wishes(hall, "a"), (["z", "b", "a", "z"], ["y", "b"], ["x", "x"], ["w", "w", "w"]))

    def test_no_piece(self):
        hall = hall_with("p", "a")
        self.refused(hall, NoPiece, hall.wish, "b")
        self.refused(hall, NoPiece, hall.wish, "b", ["a"], ["a"], ["a"], ["a"])
        self.refused(hall, NoPiece, hall.wish, "p", ["a"])
        hall.drop("a")
        self.refused(hall, NoPiece, hall.wish, "a", ["a"])

    def test_one_that_is_off_may_wish(self):
        hall = hall_with("p", "a")
        hall.switch("a", False)
        hall.wish("a", needs=["b"])
        self.assertEqual(wishes(hall, "a"), ([], [], ["b"], []))
        self.assertEqual(hall.at("p"), [])

    def test_what_is_handed_in_is_not_changed(self):
        hall = hall_with("p", "a")
        handed = [["b"], ["c"], ["d"], ["e"]]
        hall.wish("a", *handed)
        hall.wish("a", ["x"], ["x"], ["x"], ["x"])
        self.assertEqual(handed, [["b"], ["c"], ["d"], ["e"]])

    def test_what_is_handed_in_is_not_kept(self):
        hall = hall_with("p", "a")
        handed = [["b"], ["c"], ["d"], ["e"]]
        hall.wish("a", *handed)
        for names in handed:
            names.append("x")
            names[0] = "y"
        self.assertEqual(wishes(hall, "a"), (["b"], ["c"], ["d"], ["e"]))

    def test_one_list_handed_in_for_several(self):
        hall = hall_with("p", "ab")
        handed = ["c"]
        hall.wish("a", handed, handed, handed, handed)
        hall.wish("b", handed)
        hall.wish("a", ahead=["d"])
        self.assertEqual(wishes(hall, "a"), (["c", "d"], ["c"], ["c"], ["c"]))
        self.assertEqual(wishes(hall, "b"), (["c"], [], [], []))


class Switching(HallTest):
    def test_off_and_on(self):
        hall = hall_with("p", "abc")
        hall.switch("b", False)
        self.assertEqual(hall.at("p"), ["a", "c"])
        hall.switch("b", True)
        self.assertEqual(hall.at("p"), ["a", "b", "c"])

    def test_where_it_is_so_already(self):
        hall = hall_with("p", "ab")
        hall.switch("a", True)
        self.assertEqual(hall.at("p"), ["a", "b"])
        hall.switch("a", False)
        hall.switch("a", False)
        self.assertEqual(hall.at("p"), ["b"])
        hall.switch("a", True)
        self.assertEqual(hall.at("p"), ["a", "b"])

    def test_one_that_is_off_hangs_still(self):
        hall = hall_with("p", "ab")
        hall.switch("a", False)
        self.assertIs(hall.has("a"), True)
        self.assertEqual(hall.names(), ["a", "b"])

    def test_those_that_it_brought_stay_as_they_are(self):
        hall = hall_with("p", "a")
        hall.hang("b", "p", NOTHING, "a")
        hall.switch("a", False)
        self.assertEqual(hall.at("p"), ["b"])

    def test_wishes_stay(self):
        hall = hall_with("p", "a")
        hall.wish("a", ["b"], ["c"], ["d"], ["e"])
        hall.switch("a", False)
        hall.switch("a", True)
        self.assertEqual(wishes(hall, "a"), (["b"], ["c"], ["d"], ["e"]))

    def test_no_piece(self):
        hall = hall_with("p", "a")
        for on in (True, False):
            self.refused(hall, NoPiece, hall.switch, "b", on)
            self.refused(hall, NoPiece, hall.switch, "p", on)
        hall.drop("a")
        self.refused(hall, NoPiece, hall.switch, "a", True)


class At(HallTest):
    def test_only_those_of_the_place(self):
        hall = hall_with("pqr", "ab")
        hall.hang("c", "q", NOTHING)
        self.assertEqual(hall.at("p"), ["a", "b"])
        self.assertEqual(hall.at("q"), ["c"])
        self.assertEqual(hall.at("r"), [])

    def test_as_they_came_whatever_they_wish(self):
        hall = hall_with("p", "ab")
        hall.wish("b", ahead=["a"], bars=["a"], needs=["x"])
        hall.wish("a", behind=["b"])
        self.assertEqual(hall.at("p"), ["a", "b"])

    def test_all_off(self):
        hall = hall_with("p", "ab")
        hall.switch("a", False)
        hall.switch("b", False)
        self.assertEqual(hall.at("p"), [])

    def test_no_place(self):
        hall = hall_with("p", "a")
        self.refused(hall, NoPlace, hall.at, "q")


class LongWalk(HallTest):
    # Many deeds in a row, against a plain list of rows [name, place, by, on].
    def test_against_a_plain_list(self):
        for seed in range(30):
            with self.subTest(seed=seed):
                self.walk(random.Random(seed))

    def walk(self, dice):
        hall = hall_with("pq")
        rows = []
        for turn in range(150):
            name = dice.choice(LETTERS)
            hung = [row[0] for row in rows]
            sort = dice.randrange(8)
            if sort == 0 and name in hung:
                gone = self.brought(rows, name)
                self.assertEqual(hall.drop(name), gone)
                rows = [row for row in rows if row[0] not in gone]
            elif sort == 1 and name in hung:
                on = dice.choice((True, False))
                hall.switch(name, on)
                rows[hung.index(name)][3] = on
            elif sort > 1 and name not in hung:
                place = dice.choice("pq")
                by = dice.choice([None] + hung)
                if len(rows) < 24:
                    hall.hang(name, place, NOTHING, by)
                    rows.append([name, place, by, True])
                else:
                    self.refused(hall, TooMany, hall.hang, name, place, NOTHING, by)
            self.same(hall, rows)

    def brought(self, rows, name):
        gone = [name]
        for parent in gone:
            gone.extend(row[0] for row in rows if row[2] == parent)
        return [row[0] for row in rows if row[0] in gone]

    def same(self, hall, rows):
        self.assertEqual(hall.names(), [row[0] for row in rows])
        for place in "pq":
            self.assertEqual(hall.at(place), [row[0] for row in rows if row[1] == place and row[3]])
        for name in LETTERS:
            self.assertIs(hall.has(name), name in [row[0] for row in rows])


if __name__ == "__main__":
    unittest.main()
