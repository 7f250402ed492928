import inspect
import itertools
import random
import unittest

from hookhall.errors import HallError, NoPlace, Ring
from hookhall.ordering import order
from tests.helping import LETTERS, NOTHING, HallTest, hall_with, picture


def pairs_at(hall, place):
    # The pairs of point 6, told anew from the hall's own values.
    names = hall.at(place)
    pairs = []
    for name in names:
        pairs.extend((name, other) for other in hall.pieces[name].ahead if other in names)
        pairs.extend((other, name) for other in hall.pieces[name].behind if other in names)
    return pairs


def keeps(row, pairs):
    return all(row.index(first) < row.index(second) for first, second in pairs)


def least_order(hall, place):
    # Permutations of the names as they came are told in rising order, so the first that keeps all is the least.
    pairs = pairs_at(hall, place)
    for row in itertools.permutations(hall.at(place)):
        if keeps(row, pairs):
            return list(row)
    return None


def is_ring(row, pairs):
    turned = row[1:] + row[:1]
    return len(set(row)) == len(row) > 0 and all(pair in pairs for pair in zip(row, turned))


def fewest_in_a_ring(hall, place):
    pairs = pairs_at(hall, place)
    names = hall.at(place)
    for size in range(1, len(names) + 1):
        for row in itertools.permutations(names, size):
            if is_ring(list(row), pairs):
                return size
    return None


class OrderTest(HallTest):
    def ordered(self, hall, expected, place="p"):
        before = picture(hall)
        row = order(hall, place)
        self.assertIs(type(row), list)
        self.assertEqual(row, list(expected))
        self.assertEqual(picture(hall), before)

    def ringed(self, hall, size, place="p"):
        refusal = self.refused(hall, Ring, order, hall, place)
        self.assertIs(type(refusal.ring), list)
        self.assertTrue(is_ring(refusal.ring, pairs_at(hall, place)), refusal.ring)
        self.assertEqual(len(refusal.ring), size)
        return refusal.ring


class Interface(OrderTest):
    def test_arguments(self):
        self.assertEqual(str(inspect.signature(order)), "(hall, place)")
        self.assertEqual(order(hall=hall_with("p", "ab"), place="p"), ["a", "b"])

    def test_no_place(self):
        hall = hall_with("p", "ab")
        self.refused(hall, NoPlace, order, hall, "q")
        self.refused(hall, NoPlace, order, hall, "a")

    def test_no_place_beside_a_ring(self):
        hall = hall_with("p", "ab")
        hall.wish("a", ahead=["a"])
        self.refused(hall, NoPlace, order, hall, "q")

    def test_the_list_is_fresh(self):
        hall = hall_with("p", "ab")
        row = order(hall, "p")
        row.append("x")
        row.reverse()
        self.ordered(hall, "ab")
        self.assertEqual(hall.names(), ["a", "b"])

    def test_the_list_does_not_follow_the_hall(self):
        hall = hall_with("p", "ab")
        row = order(hall, "p")
        hall.wish("b", ahead=["a"])
        hall.hang("c", "p", NOTHING)
        self.assertEqual(row, ["a", "b"])
        self.ordered(hall, "bac")


class Order(OrderTest):
    def test_an_empty_place(self):
        self.ordered(hall_with("p"), "")

    def test_a_place_with_none_on(self):
        hall = hall_with("pq", "ab")
        hall.switch("a", False)
        hall.switch("b", False)
        self.ordered(hall, "")
        self.ordered(hall, "", "q")

    def test_with_no_wishes_as_they_came(self):
        self.ordered(hall_with("p", "dbca"), "dbca")
        self.ordered(hall_with("p", LETTERS[23::-1]), LETTERS[23::-1])

    def test_one_alone(self):
        self.ordered(hall_with("p", "a"), "a")

    def test_a_wish_to_stand_ahead(self):
        hall = hall_with("p", "abc")
        hall.wish("c", ahead=["a"])
        self.ordered(hall, "bca")

    def test_a_wish_to_stand_behind(self):
        hall = hall_with("p", "abc")
        hall.wish("a", behind=["c"])
        self.ordered(hall, "bca")

    def test_a_wish_that_is_met_already(self):
        hall = hall_with("p", "abc")
        hall.wish("a", ahead=["c"])
        hall.wish("c", behind=["b"])
        self.ordered(hall, "abc")

    def test_somewhere_ahead_need_not_be_next(self):
        hall = hall_with("p", "abcd")
        hall.wish("a", ahead=["d"])
        hall.wish("d", ahead=["c"])
        self.ordered(hall, "abdc")

    def test_the_same_pair_told_from_both_sides_and_twice(self):
        hall = hall_with("p", "ab")
        hall.wish("b", ahead=["a", "a"])
        hall.wish("a", behind=["b", "b"])
        self.ordered(hall, "ba")

    def test_wishes_of_several_calls_count_together(self):
        hall = hall_with("p", "abcd")
        hall.wish("d", ahead=["b"])
        self.ordered(hall, "acdb")
        hall.wish("d", ahead=["a"])
        self.ordered(hall, "cdab")
        hall.wish("d", behind=["c"])
        self.ordered(hall, "cdab")
        hall.wish("b", ahead=["a"])
        self.ordered(hall, "cdba")

    def test_the_least_is_made_from_the_front(self):
        # Setting the latest one last, and so on towards the front, would give d, a, b, c.
        hall = hall_with("p", "abcd")
        hall.wish("d", ahead=["a"])
        self.ordered(hall, "bcda")

    def test_one_set_free_goes_ahead_of_later_ones(self):
        hall = hall_with("p", "abcde")
        hall.wish("b", ahead=["a"])
        self.ordered(hall, "bacde")
        hall.wish("e", ahead=["c"])
        self.ordered(hall, "badec")

    def test_as_they_came_not_by_the_alphabet(self):
        hall = hall_with("p", "zyxw")
        hall.wish("x", ahead=["z"])
        self.ordered(hall, "yxzw")

    def test_one_that_came_again_came_last(self):
        hall = hall_with("p", "abc")
        hall.wish("c", ahead=["a"])
        hall.wish("a", behind=["b"])
        hall.drop("a")
        hall.hang("a", "p", NOTHING)
        self.ordered(hall, "bca")
        hall.drop("b")
        hall.hang("b", "p", NOTHING)
        self.ordered(hall, "cab")

    def test_a_full_place_turned_round(self):
        names = LETTERS[:24]
        hall = hall_with("p", names)
        for number in range(23):
            hall.wish(names[number], behind=list(names[number + 1:]))
        self.ordered(hall, names[::-1])

    def test_needs_and_bars_do_not_matter(self):
        hall = hall_with("p", "ab")
        hall.wish("a", needs=["b", "a"], bars=["b", "a"])
        hall.wish("b", needs=["a"], bars=["a"])
        self.ordered(hall, "ab")

    def test_who_brought_it_does_not_matter(self):
        hall = hall_with("p", "a")
        hall.hang("b", "p", NOTHING, "a")
        hall.wish("b", ahead=["a"])
        self.ordered(hall, "ba")

    def test_the_same_asked_twice(self):
        hall = hall_with("p", "abcd")
        hall.wish("d", ahead=["b"])
        hall.wish("a", behind=["c"])
        self.assertEqual(order(hall, "p"), order(hall, "p"))
        self.ordered(hall, "cadb")


class WhoIsAmongThem(OrderTest):
    def test_only_those_that_hang_there(self):
        hall = hall_with("pq", "ab")
        hall.hang("c", "q", NOTHING)
        hall.hang("d", "q", NOTHING)
        hall.wish("d", ahead=["c"])
        self.ordered(hall, "ab")
        self.ordered(hall, "dc", "q")

    def test_only_those_that_are_on(self):
        hall = hall_with("p", "abc")
        hall.wish("c", ahead=["a"])
        hall.switch("b", False)
        self.ordered(hall, "ca")
        hall.switch("b", True)
        self.ordered(hall, "bca")

    def test_wishes_for_one_at_another_place(self):
        hall = hall_with("pq", "ab")
        hall.hang("c", "q", NOTHING)
        hall.wish("b", ahead=["c"])
        hall.wish("c", ahead=["a", "b"], behind=["b"])
        hall.wish("a", behind=["c"])
        self.ordered(hall, "ab")
        self.ordered(hall, "c", "q")

    def test_wishes_for_and_of_one_that_is_off(self):
        hall = hall_with("p", "abc")
        hall.wish("c", ahead=["a"])
        hall.switch("c", False)
        self.ordered(hall, "ab")
        hall.wish("b", ahead=["c"], behind=["c"])
        self.ordered(hall, "ab")

    def test_no_wish_goes_through_one_that_is_off(self):
        # c ahead of b and b ahead of a say nothing of c and a, once b is not among them.
        hall = hall_with("p", "abc")
        hall.wish("b", ahead=["a"], behind=["c"])
        self.ordered(hall, "cba")
        hall.switch("b", False)
        self.ordered(hall, "ac")

    def test_wishes_for_one_that_does_not_hang(self):
        hall = hall_with("p", "ab")
        hall.wish("a", ahead=["x"], behind=["y"])
        hall.wish("b", ahead=["y"], behind=["x", ""])
        self.ordered(hall, "ab")

    def test_wishes_for_one_that_comes_later(self):
        hall = hall_with("p", "ab")
        hall.wish("a", behind=["c"])
        self.ordered(hall, "ab")
        hall.hang("c", "p", NOTHING)
        self.ordered(hall, "bca")

    def test_wishes_for_one_that_goes(self):
        hall = hall_with("p", "abc")
        hall.wish("a", behind=["c"])
        hall.drop("c")
        self.ordered(hall, "ab")

    def test_a_place_called_like_a_piece(self):
        hall = hall_with("a", "ab")
        hall.wish("b", ahead=["a"])
        self.ordered(hall, "ba", "a")


class Rings(OrderTest):
    def test_one_that_wishes_so_of_itself(self):
        for sort in ("ahead", "behind"):
            with self.subTest(sort=sort):
                hall = hall_with("p", "abc")
                hall.wish("b", **{sort: ["b"]})
                self.assertEqual(self.ringed(hall, 1), ["b"])

    def test_one_alone_that_wishes_so_of_itself(self):
        hall = hall_with("p", "a")
        hall.wish("a", behind=["a"])
        self.assertEqual(self.ringed(hall, 1), ["a"])

    def test_two_each_ahead_of_the_other(self):
        hall = hall_with("p", "abc")
        hall.wish("a", ahead=["c"])
        hall.wish("c", ahead=["a"])
        self.assertEqual(sorted(self.ringed(hall, 2)), ["a", "c"])

    def test_two_each_behind_the_other(self):
        hall = hall_with("p", "abc")
        hall.wish("a", behind=["c"])
        hall.wish("c", behind=["a"])
        self.assertEqual(sorted(self.ringed(hall, 2)), ["a", "c"])

    def test_one_both_ahead_and_behind(self):
        hall = hall_with("p", "ab")
        hall.wish("a", ahead=["b"], behind=["b"])
        self.ringed(hall, 2)

    def test_a_ring_of_three_goes_the_right_way(self):
        hall = hall_with("p", "abcd")
        hall.wish("b", ahead=["a"])
        hall.wish("d", ahead=["b"], behind=["a"])
        ring = self.ringed(hall, 3)
        self.assertIn(ring, [["a", "d", "b"], ["d", "b", "a"], ["b", "a", "d"]])

    def test_a_ring_of_all_24(self):
        names = LETTERS[:24]
        hall = hall_with("p", names)
        for number in range(24):
            hall.wish(names[number], ahead=[names[(number + 7) % 24]])
        self.ringed(hall, 24)

    def test_a_longer_one_beside_a_shorter_one(self):
        for names in itertools.permutations("abcde"):
            hall = hall_with("p", names)
            for first, second in ("ab", "bc", "ca", "de", "ed"):
                hall.wish(first, ahead=[second])
            self.assertEqual(sorted(self.ringed(hall, 2)), ["d", "e"])

    def test_a_longer_one_around_a_shorter_one(self):
        # a, b, c, d, e, f is a ring; c ahead of a makes a ring of three within it.
        for names in (LETTERS[:6], LETTERS[5::-1], "cfaebd"):
            hall = hall_with("p", names)
            for first, second in ("ab", "bc", "cd", "de", "ef", "fa", "ca"):
                hall.wish(second, behind=[first])
            self.assertEqual(sorted(self.ringed(hall, 3)), ["a", "b", "c"])

    def test_one_of_itself_beside_longer_ones(self):
        hall = hall_with("p", "abcdef")
        for first, second in ("ab", "ba", "cd", "de", "ec"):
            hall.wish(first, ahead=[second])
        hall.wish("f", ahead=["f"])
        self.assertEqual(self.ringed(hall, 1), ["f"])

    def test_one_of_itself_within_a_longer_one(self):
        hall = hall_with("p", "abc")
        for first, second in ("ab", "bc", "ca", "cc"):
            hall.wish(first, ahead=[second])
        self.assertEqual(self.ringed(hall, 1), ["c"])

    def test_those_ahead_of_and_behind_a_ring_are_not_in_it(self):
        hall = hall_with("p", "abcdefg")
        for first, second in ("ab", "bc", "cd", "dc", "de", "fc"):
            hall.wish(first, ahead=[second])
        self.assertEqual(sorted(self.ringed(hall, 2)), ["c", "d"])

    def test_one_switched_off_leaves_no_ring(self):
        hall = hall_with("p", "abc")
        for first, second in ("ac", "cb", "ba"):
            hall.wish(first, ahead=[second])
        self.ringed(hall, 3)
        hall.switch("c", False)
        self.ordered(hall, "ba")
        hall.switch("c", True)
        self.ringed(hall, 3)

    def test_one_of_itself_that_is_off(self):
        hall = hall_with("p", "ab")
        hall.wish("a", ahead=["a"])
        hall.switch("a", False)
        self.ordered(hall, "b")

    def test_the_shorter_ring_switched_off_leaves_the_longer(self):
        hall = hall_with("p", "abcde")
        for first, second in ("ab", "bc", "ca", "de", "ed"):
            hall.wish(first, ahead=[second])
        hall.switch("d", False)
        self.assertEqual(sorted(self.ringed(hall, 3)), ["a", "b", "c"])

    def test_one_taken_out_leaves_no_ring(self):
        hall = hall_with("p", "ab")
        hall.wish("a", ahead=["b"])
        hall.wish("b", ahead=["a"])
        hall.drop("b")
        self.ordered(hall, "a")
        hall.hang("b", "p", NOTHING)
        self.ordered(hall, "ab")

    def test_no_ring_over_two_places(self):
        hall = hall_with("pq", "a")
        hall.hang("b", "q", NOTHING)
        hall.wish("a", ahead=["b"])
        hall.wish("b", ahead=["a"])
        self.ordered(hall, "a")
        self.ordered(hall, "b", "q")

    def test_a_ring_at_another_place_does_not_matter(self):
        hall = hall_with("pq", "ab")
        hall.hang("c", "q", NOTHING)
        hall.wish("c", ahead=["c"])
        self.ordered(hall, "ab")
        self.ringed(hall, 1, "q")

    def test_the_ring_is_the_takers_own(self):
        hall = hall_with("p", "a")
        hall.wish("a", ahead=["a"])
        with self.assertRaises(HallError) as caught:
            order(hall, "p")
        caught.exception.ring.append("x")
        self.assertEqual(self.ringed(hall, 1), ["a"])


class AgainstAllRows(OrderTest):
    # Halls made by chance, against all rows of their names.
    def test_orders_and_rings(self):
        seen = {"order": 0, 1: 0, 2: 0, 3: 0, 4: 0, 5: 0, 6: 0}
        for seed in range(700):
            with self.subTest(seed=seed):
                hall = self.any_hall(random.Random(seed))
                expected = least_order(hall, "p")
                size = fewest_in_a_ring(hall, "p")
                self.assertEqual(expected is None, size is not None)
                seen[size or "order"] += 1
                if expected is None:
                    self.ringed(hall, size)
                else:
                    self.ordered(hall, expected)
        # Each sort is to have come up.
        self.assertGreater(min(seen.values()), 0, seen)

    def any_hall(self, dice):
        names = list(LETTERS[:dice.randint(0, 6)])
        dice.shuffle(names)
        hall = hall_with("pq")
        for name in names:
            hall.hang(name, dice.choice("ppppq"), NOTHING)
        longest = dice.choice((1, 2, 6))
        for turn in range(dice.randint(0, 12)):
            if names:
                # Short strides round a circle of the letters make long rings.
                one = dice.randrange(len(names))
                stride = dice.randint(0 if dice.random() < 0.05 else 1, longest)
                circle = sorted(names)
                self.wish_pair(hall, dice, circle[one], circle[(one + stride) % len(names)])
        for name in names:
            hall.switch(name, dice.random() < 0.95)
        return hall

    def wish_pair(self, hall, dice, first, second):
        if dice.random() < 0.5:
            hall.wish(first, ahead=[second])
        else:
            hall.wish(second, behind=[first])


if __name__ == "__main__":
    unittest.main()
