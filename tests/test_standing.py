import inspect
import itertools
import random
import unittest

from hookhall.errors import Barred, NoPiece
from hookhall.halls import Hall
from hookhall.standing import fits, lacks, with_needs
from tests.helping import LETTERS, NOTHING, HallTest, hall_with, picture


def told_of(hall, among):
    # Point 14, told anew from the hall's own values.
    rows = []
    for name, piece in hall.pieces.items():
        if name in among:
            rows += [("needs", name, need) for need in piece.needs if need not in among]
            rows += [("bars", name, bar) for bar in piece.bars if bar in among]
    return rows


def fewest_with_needs(hall, name):
    # The smallest choice of hanging pieces that has the piece and all needs of each; None where there is none.
    hung = hall.names()
    for size in range(1, len(hung) + 1):
        for chosen in itertools.combinations(hung, size):
            if name in chosen and all(need in chosen for one in chosen for need in hall.pieces[one].needs):
                return list(chosen)
    return None


class StandingTest(HallTest):
    def lacking(self, hall, names, expected):
        before = picture(hall)
        handed = list(names)
        told = lacks(hall, handed)
        self.assertEqual(told, list(expected))
        self.assertIs(type(told), list)
        self.assertIs(fits(hall, handed), not expected)
        self.assertEqual(handed, list(names))
        self.assertEqual(picture(hall), before)

    def whole(self, hall, name, expected):
        before = picture(hall)
        told = with_needs(hall, name)
        self.assertEqual(told, list(expected))
        self.assertIs(type(told), list)
        self.assertEqual(picture(hall), before)

    def barred(self, hall, name, one, other):
        refusal = self.refused(hall, Barred, with_needs, hall, name)
        self.assertEqual((refusal.one, refusal.other), (one, other))


class Interface(StandingTest):
    def test_arguments(self):
        self.assertEqual(str(inspect.signature(lacks)), "(hall, names)")
        self.assertEqual(str(inspect.signature(fits)), "(hall, names)")
        self.assertEqual(str(inspect.signature(with_needs)), "(hall, name)")
        hall = hall_with("p", "a")
        self.assertEqual(lacks(hall=hall, names=["a"]), [])
        self.assertIs(fits(hall=hall, names=["a"]), True)
        self.assertEqual(with_needs(hall=hall, name="a"), ["a"])

    def test_lists_are_fresh(self):
        hall = hall_with("p", "ab")
        hall.wish("a", needs=["b"])
        lacks(hall, ["a"]).clear()
        with_needs(hall, "a").clear()
        handed = ["b", "a"]
        lacks(hall, handed).append("x")
        self.assertEqual(handed, ["b", "a"])
        self.lacking(hall, "a", [("needs", "a", "b")])
        self.whole(hall, "a", "ab")


class Lacks(StandingTest):
    def test_none_at_all(self):
        self.lacking(Hall(), "", [])
        hall = hall_with("p", "a")
        hall.wish("a", needs=["x"], bars=["a"])
        self.lacking(hall, "", [])

    def test_no_wishes(self):
        self.lacking(hall_with("p", "abc"), "ac", [])

    def test_a_need_that_is_not_among_them(self):
        hall = hall_with("p", "ab")
        hall.wish("a", needs=["b"])
        self.lacking(hall, "a", [("needs", "a", "b")])
        self.lacking(hall, "ab", [])
        self.lacking(hall, "b", [])

    def test_a_need_that_does_not_hang(self):
        hall = hall_with("p", "ab")
        hall.wish("a", needs=["x"])
        self.lacking(hall, "ab", [("needs", "a", "x")])

    def test_only_the_needs_of_those_among_them(self):
        # c is not among them, so what it needs does not count.
        hall = hall_with("p", "abcd")
        hall.wish("a", needs=["c"])
        hall.wish("c", needs=["d"])
        self.lacking(hall, "ab", [("needs", "a", "c")])

    def test_a_bar_among_them(self):
        hall = hall_with("p", "ab")
        hall.wish("a", bars=["b", "x"])
        self.lacking(hall, "ab", [("bars", "a", "b")])
        self.lacking(hall, "a", [])
        self.lacking(hall, "b", [])

    def test_a_bar_counts_of_the_one_that_bars(self):
        hall = hall_with("p", "ab")
        hall.wish("b", bars=["a"])
        self.lacking(hall, "ab", [("bars", "b", "a")])
        hall.wish("a", bars=["b"])
        self.lacking(hall, "ab", [("bars", "a", "b"), ("bars", "b", "a")])

    def test_one_that_needs_itself(self):
        hall = hall_with("p", "a")
        hall.wish("a", needs=["a"])
        self.lacking(hall, "a", [])

    def test_one_that_bars_itself(self):
        hall = hall_with("p", "ab")
        hall.wish("a", bars=["a"])
        self.lacking(hall, "a", [("bars", "a", "a")])
        self.lacking(hall, "b", [])

    def test_one_that_needs_and_bars_the_same(self):
        hall = hall_with("p", "ab")
        hall.wish("a", needs=["b"], bars=["b"])
        self.lacking(hall, "a", [("needs", "a", "b")])
        self.lacking(hall, "ab", [("bars", "a", "b")])

    def test_piece_by_piece_as_they_came(self):
        hall = hall_with("p", "zab")
        hall.wish("a", needs=["x"], bars=["z"])
        hall.wish("b", bars=["a"])
        hall.wish("z", needs=["y"], bars=["b"])
        expected = [
            ("needs", "z", "y"), ("bars", "z", "b"), ("needs", "a", "x"), ("bars", "a", "z"), ("bars", "b", "a"),
        ]
        for names in itertools.permutations("abz"):
            self.lacking(hall, names, expected)

    def test_one_that_came_again_came_last(self):
        hall = hall_with("p", "ab")
        hall.drop("a")
        hall.hang("a", "p", NOTHING)
        hall.wish("a", needs=["x"])
        hall.wish("b", needs=["x"])
        self.lacking(hall, "ab", [("needs", "b", "x"), ("needs", "a", "x")])

    def test_first_the_needs_though_the_bars_were_wished_first(self):
        hall = hall_with("p", "ab")
        hall.wish("a", bars=["b"])
        hall.wish("a", needs=["x"])
        self.lacking(hall, "ab", [("needs", "a", "x"), ("bars", "a", "b")])

    def test_in_the_order_of_the_wishes(self):
        hall = hall_with("p", "abcd")
        hall.wish("b", needs=["y", "c", "x"], bars=["d", "a"])
        hall.wish("b", needs=["w"], bars=["c", "b"])
        self.lacking(hall, "abd", [
            ("needs", "b", "y"), ("needs", "b", "c"), ("needs", "b", "x"), ("needs", "b", "w"),
            ("bars", "b", "d"), ("bars", "b", "a"), ("bars", "b", "b"),
        ])

    def test_as_often_as_it_wishes_so(self):
        hall = hall_with("p", "ab")
        hall.wish("a", needs=["x", "y", "x"], bars=["b", "b"])
        hall.wish("a", needs=["x"], bars=["a", "b"])
        self.lacking(hall, "ab", [
            ("needs", "a", "x"), ("needs", "a", "y"), ("needs", "a", "x"), ("needs", "a", "x"),
            ("bars", "a", "b"), ("bars", "a", "b"), ("bars", "a", "a"), ("bars", "a", "b"),
        ])

    def test_a_name_handed_in_twice_counts_once(self):
        hall = hall_with("p", "ab")
        hall.wish("a", needs=["x"], bars=["b"])
        self.lacking(hall, "abab", [("needs", "a", "x"), ("bars", "a", "b")])

    def test_whatever_is_on_or_off(self):
        hall = hall_with("p", "abc")
        hall.wish("a", needs=["b", "x"], bars=["c"])
        for name in "abc":
            hall.switch(name, False)
            self.lacking(hall, "abc", [("needs", "a", "x"), ("bars", "a", "c")])
            self.lacking(hall, "ac", [("needs", "a", "b"), ("needs", "a", "x"), ("bars", "a", "c")])

    def test_wherever_they_hang(self):
        hall = hall_with("pq", "a")
        hall.hang("b", "q", NOTHING)
        hall.wish("a", needs=["b"])
        hall.wish("b", bars=["a"])
        self.lacking(hall, "a", [("needs", "a", "b")])
        self.lacking(hall, "ab", [("bars", "b", "a")])

    def test_wishes_for_the_order_do_not_matter(self):
        hall = hall_with("p", "ab")
        hall.wish("a", ahead=["b", "x", "a"], behind=["b", "x", "a"])
        self.lacking(hall, "ab", [])
        self.lacking(hall, "a", [])

    def test_tuples_of_three_texts(self):
        hall = hall_with("p", "a")
        hall.wish("a", needs=["x"], bars=["a"])
        for told in lacks(hall, ["a"]):
            self.assertIs(type(told), tuple)
            self.assertEqual(len(told), 3)


class WithNeeds(StandingTest):
    def test_one_without_needs(self):
        self.whole(hall_with("p", "abc"), "b", "b")

    def test_its_needs(self):
        hall = hall_with("p", "abcd")
        hall.wish("b", needs=["d", "a"])
        self.whole(hall, "b", "abd")

    def test_needs_of_needs(self):
        hall = hall_with("p", "abcdef")
        hall.wish("c", needs=["e"])
        hall.wish("e", needs=["a", "d"])
        hall.wish("d", needs=["b"])
        self.whole(hall, "c", "abcde")
        self.whole(hall, "e", "abde")
        self.whole(hall, "d", "bd")
        self.whole(hall, "f", "f")

    def test_as_they_came_not_by_the_alphabet(self):
        hall = hall_with("p", "zmab")
        hall.wish("b", needs=["a", "z"])
        hall.wish("a", needs=["m"])
        self.whole(hall, "b", "zmab")

    def test_needs_in_a_ring(self):
        hall = hall_with("p", "abcd")
        hall.wish("a", needs=["c"])
        hall.wish("c", needs=["b"])
        hall.wish("b", needs=["a"])
        for name in "abc":
            self.whole(hall, name, "abc")

    def test_one_that_needs_itself(self):
        hall = hall_with("p", "ab")
        hall.wish("a", needs=["a", "a"])
        self.whole(hall, "a", "a")

    def test_needed_twice(self):
        hall = hall_with("p", "abcd")
        hall.wish("a", needs=["b", "c", "b"])
        hall.wish("b", needs=["d"])
        hall.wish("c", needs=["d"])
        self.whole(hall, "a", "abcd")

    def test_a_long_row(self):
        names = LETTERS[:24]
        hall = hall_with("p", names)
        for number in range(23):
            hall.wish(names[number], needs=[names[number + 1]])
        self.whole(hall, "a", names)
        self.whole(hall, "x", "x")

    def test_whatever_is_on_or_off_and_wherever_it_hangs(self):
        hall = hall_with("pq", "ab")
        hall.hang("c", "q", NOTHING)
        hall.wish("b", needs=["c"])
        hall.wish("c", needs=["a"])
        hall.switch("c", False)
        hall.switch("b", False)
        self.whole(hall, "b", "abc")

    def test_who_brought_it_does_not_matter(self):
        hall = hall_with("p", "a")
        hall.hang("b", "p", NOTHING, "a")
        self.whole(hall, "a", "a")
        self.whole(hall, "b", "b")

    def test_the_piece_itself_does_not_hang(self):
        hall = hall_with("p", "a")
        self.refused(hall, NoPiece, with_needs, hall, "x")
        self.refused(hall, NoPiece, with_needs, hall, "p")
        hall.drop("a")
        self.refused(hall, NoPiece, with_needs, hall, "a")

    def test_a_need_does_not_hang(self):
        hall = hall_with("p", "ab")
        hall.wish("a", needs=["b", "x"])
        self.refused(hall, NoPiece, with_needs, hall, "a")
        self.whole(hall, "b", "b")

    def test_a_need_of_a_need_does_not_hang(self):
        hall = hall_with("p", "abc")
        hall.wish("a", needs=["b"])
        hall.wish("b", needs=["c"])
        hall.wish("c", needs=["a", "x"])
        for name in "abc":
            self.refused(hall, NoPiece, with_needs, hall, name)
        hall.hang("x", "p", NOTHING)
        self.whole(hall, "a", "abcx")
        hall.drop("b")
        self.refused(hall, NoPiece, with_needs, hall, "a")
        self.refused(hall, NoPiece, with_needs, hall, "c")
        self.whole(hall, "x", "x")

    def test_needs_of_others_do_not_matter(self):
        hall = hall_with("p", "abc")
        hall.wish("c", needs=["x", "a"], bars=["a", "b", "c"])
        hall.wish("a", needs=["b"])
        self.whole(hall, "a", "ab")

    def test_one_bars_another(self):
        hall = hall_with("p", "abc")
        hall.wish("a", needs=["c"])
        hall.wish("c", bars=["b", "a"])
        self.barred(hall, "a", "c", "a")
        self.whole(hall, "c", "c")

    def test_one_bars_itself(self):
        hall = hall_with("p", "ab")
        hall.wish("a", bars=["a"])
        self.barred(hall, "a", "a", "a")
        hall.wish("b", needs=["a"])
        self.barred(hall, "b", "a", "a")

    def test_it_needs_what_it_bars(self):
        hall = hall_with("p", "ab")
        hall.wish("a", needs=["b"], bars=["b"])
        self.barred(hall, "a", "a", "b")

    def test_a_bar_for_one_that_is_not_among_them(self):
        hall = hall_with("p", "abc")
        hall.wish("a", needs=["b"], bars=["c", "x"])
        self.whole(hall, "a", "ab")

    def test_the_first_bar_as_the_pieces_came(self):
        hall = hall_with("p", "cab")
        hall.wish("b", needs=["a", "c"], bars=["c"])
        hall.wish("a", bars=["b"])
        hall.wish("c", bars=["x", "b", "a"])
        self.barred(hall, "b", "c", "b")

    def test_the_first_bar_in_the_order_of_the_wishes(self):
        hall = hall_with("p", "abc")
        hall.wish("b", needs=["a", "c"])
        hall.wish("b", bars=["x", "c"])
        hall.wish("b", bars=["a", "b"])
        self.barred(hall, "b", "b", "c")

    def test_whatever_is_on_or_off_bars(self):
        hall = hall_with("p", "ab")
        hall.wish("a", needs=["b"])
        hall.wish("b", bars=["a"])
        hall.switch("a", False)
        hall.switch("b", False)
        self.barred(hall, "a", "b", "a")

    def test_no_piece_ahead_of_barred(self):
        hall = hall_with("p", "abc")
        hall.wish("a", needs=["b"], bars=["a", "b"])
        hall.wish("b", needs=["c"], bars=["a"])
        hall.wish("c", needs=["x"])
        self.refused(hall, NoPiece, with_needs, hall, "a")
        hall.hang("x", "p", NOTHING)
        self.barred(hall, "a", "a", "a")

    def test_wishes_for_the_order_do_not_matter(self):
        hall = hall_with("p", "ab")
        hall.wish("a", ahead=["b", "x", "a"], behind=["b", "x", "a"])
        self.whole(hall, "a", "a")


class AgainstThePoints(StandingTest):
    # Halls made by chance, against the points told anew in this file.
    def any_hall(self, dice):
        names = list(LETTERS[:dice.randint(1, 6)])
        dice.shuffle(names)
        hall = hall_with("p", names)
        for turn in range(dice.randint(0, 8)):
            sort = dice.choice(("needs", "needs", "bars"))
            stranger = ["x"] if dice.random() < 0.2 else []
            hall.wish(dice.choice(names), **{sort: [dice.choice(names + stranger)]})
        for name in names:
            hall.switch(name, dice.random() < 0.7)
        return hall

    def test_lacks(self):
        for seed in range(300):
            dice = random.Random(seed)
            hall = self.any_hall(dice)
            names = dice.sample(hall.names(), dice.randint(0, len(hall.names())))
            with self.subTest(seed=seed):
                self.lacking(hall, names, told_of(hall, names))

    def test_with_needs(self):
        seen = {NoPiece: 0, Barred: 0, list: 0}
        for seed in range(300):
            hall = self.any_hall(random.Random(seed))
            for name in hall.names():
                with self.subTest(seed=seed, name=name):
                    seen[self.one_piece(hall, name)] += 1
        # Each sort is to have come up.
        self.assertGreater(min(seen.values()), 20, seen)

    def one_piece(self, hall, name):
        chosen = fewest_with_needs(hall, name)
        if chosen is None:
            self.refused(hall, NoPiece, with_needs, hall, name)
            return NoPiece
        told = told_of(hall, chosen)
        if told:
            self.barred(hall, name, told[0][1], told[0][2])
            return Barred
        self.whole(hall, name, chosen)
        return list


if __name__ == "__main__":
    unittest.main()
