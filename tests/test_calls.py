import inspect
import itertools
import random
import unittest

from hookhall.calls import Run, begin, call, mattering
from hookhall.errors import DeedFault, NoAnswer, NoPlace, Ring
from hookhall.halls import Hall
from hookhall.ordering import order
from tests.helping import KINDS, LETTERS, NOTHING, RULES, HallTest, hall_of, hall_with, picture

HUGE = 10 ** 5000 + 7
DEEDS = (("add", 3), ("say", 40), ("none",), ("fail", 9), ("add", -5), ("say", 0), ("fail", 9))


def around(deeds, number):
    # Point 10's round as it reads, a deed around those behind it; faults are held, and counted as saying nothing.
    if not deeds:
        return number
    deed, within = deeds[0], deeds[1:]
    if deed[0] == "say":
        return deed[1]
    if deed[0] == "add":
        return 10 * around(within, number + deed[1]) + deed[1]
    return around(within, number)


def done_in(kind, deeds):
    # How many deeds a call does where all faults are held.
    ends = {"all": (), "chain": (), "first": ("add", "say"), "round": ("say",)}[kind]
    for place, deed in enumerate(deeds, 1):
        if deed[0] in ends:
            return place
    return len(deeds)


def answer_of(kind, named, number):
    deeds = [deed for name, deed in named]
    sayings = {"add": lambda own, told: told + own, "say": lambda own, told: own}
    if kind == "round":
        return around(deeds, number)
    if kind == "all":
        told = [(name, sayings[deed[0]](deed[1], number) if len(deed) > 1 else None)
                for name, deed in named if deed[0] != "fail"]
        return told
    speaking = [deed for deed in deeds if deed[0] in sayings]
    if kind == "first":
        return sayings[speaking[0][0]](speaking[0][1], number) if speaking else None
    for deed in speaking:
        number = sayings[deed[0]](deed[1], number)
    return number


def ending_of(kind, rule, named, number):
    # ("fault", name, code), or ("answer", the answer, the faults held).
    done = named[:done_in(kind, [deed for name, deed in named])]
    faults = [(name, deed[1]) for name, deed in done if deed[0] == "fail"]
    if faults and rule == "hand":
        return ("fault",) + faults[0]
    return ("answer", answer_of(kind, named, number), faults)


def ending(hall, place, number):
    try:
        return ("answer",) + call(hall, place, number)
    except DeedFault as fault:
        return ("fault", fault.piece, fault.code)


def matters_by_switching(hall, place, number):
    # Switching one off leaves the call over the others.
    whole = ending(hall, place, number)
    found = []
    for name in order(hall, place):
        hall.switch(name, False)
        if ending(hall, place, number) != whole:
            found.append(name)
        hall.switch(name, True)
    return found


def any_deed(dice, most=3):
    sort = dice.choice(("add", "say", "none", "fail", "add", "fail"))
    return NOTHING if sort == "none" else (sort, dice.randint(-most, most))


def any_hall(dice, kind, rule, most=7):
    # Wishes go up along a hidden row, so that there is no ring.
    hall = hall_of(kind, rule, *[any_deed(dice) for turn in range(dice.randint(0, most))])
    row = hall.names()
    dice.shuffle(row)
    for turn in range(dice.randint(0, 6)):
        if len(row) > 1:
            first, second = sorted(dice.sample(range(len(row)), 2))
            hall.wish(row[first], ahead=[row[second]])
    for name in row:
        hall.switch(name, dice.random() < 0.9)
    return hall


class CallTest(HallTest):
    def answers(self, hall, number, answer, faults=()):
        before = picture(hall)
        told = call(hall, "p", number)
        self.assertEqual(told, (answer, list(faults)))
        self.assertIs(type(told), tuple)
        self.assertIs(type(told[0]), type(answer))
        self.assertIs(type(told[1]), list)
        self.assertEqual(picture(hall), before)

    def falls(self, hall, number, piece, code):
        fault = self.refused(hall, DeedFault, call, hall, "p", number)
        self.assertEqual((fault.piece, fault.code), (piece, code))

    def silent(self, run):
        with self.assertRaises(NoAnswer) as caught:
            run.answer()
        self.assertIs(type(caught.exception), NoAnswer)

    def stands(self, run, over, faults=()):
        self.assertIs(run.over(), over)
        self.assertEqual(run.faults(), list(faults))
        self.assertIs(type(run.faults()), list)
        if not over:
            self.silent(run)

    def ends(self, run, answer, faults=()):
        for turn in range(2):
            self.stands(run, True, faults)
            self.assertIsNone(run.step())
            self.assertEqual(run.answer(), answer)
            self.assertIs(type(run.answer()), type(answer))


class Interface(CallTest):
    def test_arguments(self):
        for told in (begin, call, mattering):
            self.assertEqual(str(inspect.signature(told)), "(hall, place, number)")
        for name in ("over", "step", "answer", "faults"):
            self.assertEqual(str(inspect.signature(getattr(Run, name))), "(self)")

    def test_begin_makes_a_run(self):
        for kind in KINDS:
            for rule in RULES:
                self.assertIs(type(begin(hall_of(kind, rule, *DEEDS), "p", 1)), Run)

    def test_arguments_by_name(self):
        hall = hall_of("chain", "hold", ("add", 1))
        self.assertEqual(call(hall=hall, place="p", number=2), (3, []))
        self.assertEqual(mattering(hall=hall, place="p", number=2), ["a"])
        self.assertEqual(begin(hall=hall, place="p", number=2).step(), "a")

    def test_no_place(self):
        hall = hall_of("all", "hold", ("add", 1))
        for told in (begin, call, mattering):
            self.refused(hall, NoPlace, told, hall, "q", 1)
            self.refused(hall, NoPlace, told, hall, "a", 1)
            self.refused(Hall(), NoPlace, told, Hall(), "p", 1)

    def test_ring(self):
        for kind in KINDS:
            for rule in RULES:
                hall = hall_of(kind, rule, ("fail", 1), ("say", 1), ("none",))
                hall.wish("b", ahead=["c"])
                hall.wish("c", ahead=["b"])
                for told in (begin, call, mattering):
                    refusal = self.refused(hall, Ring, told, hall, "p", 1)
                    self.assertEqual(sorted(refusal.ring), ["b", "c"])

    def test_ring_of_one(self):
        hall = hall_of("chain", "hold", ("add", 1))
        hall.wish("a", behind=["a"])
        for told in (begin, call, mattering):
            self.assertEqual(self.refused(hall, Ring, told, hall, "p", 1).ring, ["a"])

    def test_no_place_beside_a_ring(self):
        hall = hall_of("chain", "hold", ("add", 1))
        hall.wish("a", behind=["a"])
        for told in (begin, call, mattering):
            self.refused(hall, NoPlace, told, hall, "q", 1)

    def test_a_ring_with_one_off_is_none(self):
        hall = hall_of("chain", "hold", ("add", 1), ("add", 2))
        hall.wish("a", ahead=["b"], behind=["b"])
        hall.switch("b", False)
        self.answers(hall, 1, 2)
        self.assertEqual(begin(hall, "p", 1).step(), "a")
        self.assertEqual(mattering(hall, "p", 1), ["a"])


class All(CallTest):
    def test_each_is_told_the_calls_number(self):
        hall = hall_of("all", "hold", ("add", 3), ("say", 8), ("none",), ("add", -4))
        self.answers(hall, 10, [("a", 13), ("b", 8), ("c", None), ("d", 6)])

    def test_tuples(self):
        answer, faults = call(hall_of("all", "hold", ("add", 3), ("fail", 4)), "p", 1)
        self.assertIs(type(answer[0]), tuple)
        self.assertIs(type(faults[0]), tuple)

    def test_no_deeds(self):
        self.answers(hall_of("all", "hold"), 5, [])
        self.answers(hall_of("all", "hand"), 5, [])

    def test_those_that_fell_are_left_out(self):
        hall = hall_of("all", "hold", ("fail", 3), ("say", 8), ("fail", -2), ("none",))
        self.answers(hall, 1, [("b", 8), ("d", None)], [("a", 3), ("c", -2)])

    def test_all_fell(self):
        hall = hall_of("all", "hold", ("fail", 3), ("fail", 3))
        self.answers(hall, 1, [], [("a", 3), ("b", 3)])

    def test_in_their_order(self):
        hall = hall_of("all", "hold", ("add", 3), ("fail", 8), ("none",), ("fail", 1))
        hall.wish("d", ahead=["b"])
        hall.wish("a", behind=["c"])
        self.answers(hall, 0, [("c", None), ("a", 3)], [("d", 1), ("b", 8)])

    def test_nought_is_not_nothing(self):
        hall = hall_of("all", "hold", ("say", 0), ("add", -1))
        self.answers(hall, 1, [("a", 0), ("b", 0)])

    def test_handed_on(self):
        hall = hall_of("all", "hand", ("add", 3), ("fail", -8), ("fail", 2))
        self.falls(hall, 1, "b", -8)

    def test_hand_without_faults(self):
        hall = hall_of("all", "hand", ("add", 3), ("none",))
        self.answers(hall, 1, [("a", 4), ("b", None)])

    def test_lists_are_the_askers(self):
        hall = hall_of("all", "hold", ("add", 3), ("fail", 2))
        answer, faults = call(hall, "p", 1)
        answer.clear()
        faults.clear()
        self.answers(hall, 1, [("a", 4)], [("b", 2)])


class First(CallTest):
    def test_the_first_that_says_something(self):
        self.answers(hall_of("first", "hold", ("none",), ("add", 3), ("say", 8)), 10, 13)
        self.answers(hall_of("first", "hold", ("none",), ("say", 8), ("add", 3)), 10, 8)

    def test_nought_is_not_nothing(self):
        self.answers(hall_of("first", "hold", ("say", 0), ("say", 8)), 10, 0)
        self.answers(hall_of("first", "hold", ("add", -10), ("say", 8)), 10, 0)

    def test_none_says_anything(self):
        self.answers(hall_of("first", "hold", ("none",), ("none",)), 10, None)
        self.answers(hall_of("first", "hand", ("none",), ("none",)), 10, None)
        self.answers(hall_of("first", "hold", ("fail", 4), ("none",)), 10, None, [("a", 4)])

    def test_no_deeds(self):
        self.answers(hall_of("first", "hold"), 5, None)
        self.answers(hall_of("first", "hand"), 5, None)

    def test_faults_ahead_of_it_are_held_and_those_behind_are_not_done(self):
        hall = hall_of("first", "hold", ("fail", 3), ("none",), ("fail", 2), ("say", 7), ("fail", 1))
        self.answers(hall, 1, 7, [("a", 3), ("c", 2)])

    def test_handed_on(self):
        self.falls(hall_of("first", "hand", ("none",), ("fail", 2), ("say", 7), ("fail", 1)), 1, "b", 2)

    def test_a_fault_behind_it_is_not_handed_on(self):
        self.answers(hall_of("first", "hand", ("none",), ("say", 7), ("fail", 1)), 1, 7)
        self.answers(hall_of("first", "hand", ("add", 7), ("fail", 1)), 1, 8)

    def test_in_their_order(self):
        hall = hall_of("first", "hold", ("say", 1), ("say", 2), ("say", 3))
        hall.wish("c", ahead=["a", "b"])
        self.answers(hall, 0, 3)


class Chain(CallTest):
    def test_each_is_told_the_number_as_it_is_by_then(self):
        self.answers(hall_of("chain", "hold", ("add", 3), ("add", 4)), 10, 17)
        self.answers(hall_of("chain", "hold", ("add", 3), ("say", 8), ("add", -10)), 10, -2)
        self.answers(hall_of("chain", "hold", ("say", 8), ("add", 3), ("say", 0)), 10, 0)

    def test_nothing_leaves_the_number(self):
        self.answers(hall_of("chain", "hold", ("none",), ("add", 3), ("none",)), 10, 13)
        self.answers(hall_of("chain", "hold", ("none",)), 10, 10)

    def test_no_deeds(self):
        self.answers(hall_of("chain", "hold"), 5, 5)
        self.answers(hall_of("chain", "hand"), -5, -5)

    def test_faults_held_leave_the_number(self):
        hall = hall_of("chain", "hold", ("fail", 3), ("add", 1), ("fail", 2), ("add", 1), ("fail", 3))
        self.answers(hall, 1, 3, [("a", 3), ("c", 2), ("e", 3)])

    def test_handed_on(self):
        self.falls(hall_of("chain", "hand", ("add", 1), ("fail", 0), ("fail", 1)), 1, "b", 0)

    def test_in_their_order(self):
        hall = hall_of("chain", "hold", ("say", 1), ("add", 2))
        self.answers(hall, 5, 3)
        hall.wish("a", behind=["b"])
        self.answers(hall, 5, 1)


class Round(CallTest):
    def test_one_that_adds(self):
        # In: 10 + 3. Back: ten times it, and 3 more.
        self.answers(hall_of("round", "hold", ("add", 3)), 10, 133)

    def test_one_around_another(self):
        # In: 1 + 2 + 3 = 6. Back: 63, then 632.
        self.answers(hall_of("round", "hold", ("add", 2), ("add", 3)), 1, 632)

    def test_below_nought(self):
        # In: 1 - 2 = -1. Back: -10 - 2.
        self.answers(hall_of("round", "hold", ("add", -2)), 1, -12)

    def test_one_that_says(self):
        self.answers(hall_of("round", "hold", ("say", 4)), 1, 4)
        self.answers(hall_of("round", "hold", ("say", 4), ("add", 3), ("fail", 1)), 1, 4)
        self.answers(hall_of("round", "hold", ("add", 3), ("say", 4), ("add", 5)), 1, 43)
        self.answers(hall_of("round", "hold", ("add", 3), ("say", 0), ("say", 5)), 1, 3)

    def test_nothing_gives_on_and_back(self):
        self.answers(hall_of("round", "hold", ("none",)), 5, 5)
        self.answers(hall_of("round", "hold", ("none",), ("add", 2), ("none",), ("add", 3), ("none",)), 1, 632)

    def test_no_deeds(self):
        self.answers(hall_of("round", "hold"), 5, 5)
        self.answers(hall_of("round", "hand"), -5, -5)

    def test_faults_held_give_on_and_back(self):
        hall = hall_of("round", "hold", ("fail", 9), ("add", 2), ("fail", 8), ("add", 3), ("fail", 7))
        self.answers(hall, 1, 632, [("a", 9), ("c", 8), ("e", 7)])

    def test_what_lies_within_one_that_says_is_not_done(self):
        hall = hall_of("round", "hold", ("fail", 9), ("add", 2), ("say", 8), ("add", 3), ("fail", 7))
        self.answers(hall, 1, 82, [("a", 9)])
        self.answers(hall_of("round", "hand", ("add", 2), ("say", 8), ("fail", 7)), 1, 82)

    def test_handed_on(self):
        self.falls(hall_of("round", "hand", ("add", 2), ("fail", 7), ("say", 8), ("fail", 1)), 1, "b", 7)
        self.falls(hall_of("round", "hand", ("add", 2), ("none",), ("fail", 7)), 1, "c", 7)

    def test_in_their_order(self):
        hall = hall_of("round", "hold", ("add", 2), ("add", 3))
        hall.wish("b", ahead=["a"])
        # In: 6. Back: 62, then 623.
        self.answers(hall, 1, 623)

    def test_as_deep_as_a_hall_goes(self):
        deeds = [("add", number) for number in range(24)]
        self.answers(hall_of("round", "hold", *deeds), 1, around(deeds, 1))


class Numbers(CallTest):
    def test_of_many_figures(self):
        add, other = ("add", HUGE), ("add", -HUGE)
        self.answers(hall_of("all", "hold", add, ("say", -HUGE)), HUGE, [("a", 2 * HUGE), ("b", -HUGE)])
        self.answers(hall_of("first", "hold", NOTHING, other), HUGE + 1, 1)
        self.answers(hall_of("chain", "hold", add, other, add), -HUGE, 0)
        self.answers(hall_of("round", "hold", add, other), 3, 10 * (30 - HUGE) + HUGE)

    def test_codes_of_many_figures(self):
        for kind in KINDS:
            for code in (HUGE, -HUGE, 0):
                run = begin(hall_of(kind, "hold", ("fail", code)), "p", 1)
                self.assertEqual(run.step(), "a")
                self.assertEqual(run.faults(), [("a", code)])
                self.falls(hall_of(kind, "hand", ("fail", code)), 1, "a", code)

    def test_below_nought(self):
        self.answers(hall_of("all", "hold", ("add", -1), ("say", -2)), -3, [("a", -4), ("b", -2)])
        self.answers(hall_of("first", "hold", ("add", -1)), -3, -4)
        self.answers(hall_of("chain", "hold", ("add", -1), ("add", 5)), -3, 1)
        self.answers(hall_of("round", "hold", ("add", -1), ("say", -7)), -3, -71)


class WhoIsCalled(CallTest):
    def test_only_those_that_hang_there_and_are_on(self):
        hall = hall_of("all", "hold", ("say", 1), ("say", 2), ("fail", 3))
        hall.open_place("q", "chain", "hand")
        hall.hang("z", "q", ("say", 9))
        hall.switch("b", False)
        hall.switch("c", False)
        self.answers(hall, 0, [("a", 1)])
        self.assertEqual(call(hall, "q", 0), (9, []))

    def test_each_place_by_its_own_kind_and_rule(self):
        hall = Hall()
        expected = {"all": [("all", 5)], "first": 5, "chain": 5, "round": 53}
        for kind in KINDS:
            hall.open_place(kind, kind, "hold")
            hall.hang(kind, kind, ("add", 3))
        for kind in KINDS:
            self.assertEqual(call(hall, kind, 2), (expected[kind], []))

    def test_each_kind_with_each_rule_and_each_row_of_deeds(self):
        rows = [row for size in range(4) for row in itertools.product(DEEDS, repeat=size)]
        for kind in KINDS:
            for rule in RULES:
                for deeds in rows:
                    hall = hall_of(kind, rule, *deeds)
                    expected = ending_of(kind, rule, list(zip(LETTERS, deeds)), 6)
                    self.assertEqual(ending(hall, "p", 6), expected, (kind, rule, deeds))


class Runs(CallTest):
    def test_no_deeds(self):
        for kind, answer in (("all", []), ("first", None), ("chain", 7), ("round", 7)):
            for rule in RULES:
                self.ends(begin(hall_of(kind, rule), "p", 7), answer)

    def test_all_step_by_step(self):
        run = begin(hall_of("all", "hold", ("add", 1), ("fail", 2), ("none",)), "p", 7)
        self.stands(run, False)
        self.assertEqual(run.step(), "a")
        self.stands(run, False)
        self.assertEqual(run.step(), "b")
        self.stands(run, False, [("b", 2)])
        self.assertEqual(run.step(), "c")
        self.ends(run, [("a", 8), ("c", None)], [("b", 2)])

    def test_chain_step_by_step(self):
        run = begin(hall_of("chain", "hold", ("fail", 1), ("add", 1), ("fail", 2)), "p", 7)
        self.stands(run, False)
        self.assertEqual(run.step(), "a")
        self.stands(run, False, [("a", 1)])
        self.assertEqual(run.step(), "b")
        self.stands(run, False, [("a", 1)])
        self.assertEqual(run.step(), "c")
        self.ends(run, 8, [("a", 1), ("c", 2)])

    def test_first_is_over_behind_the_one_that_says(self):
        run = begin(hall_of("first", "hold", ("none",), ("fail", 3), ("add", 1), ("say", 2)), "p", 7)
        self.assertEqual([run.step(), run.step()], ["a", "b"])
        self.stands(run, False, [("b", 3)])
        self.assertEqual(run.step(), "c")
        self.ends(run, 8, [("b", 3)])

    def test_first_is_over_behind_the_last(self):
        run = begin(hall_of("first", "hold", ("none",), ("none",)), "p", 7)
        self.assertEqual(run.step(), "a")
        self.stands(run, False)
        self.assertEqual(run.step(), "b")
        self.ends(run, None)

    def test_round_is_over_behind_the_one_that_says(self):
        run = begin(hall_of("round", "hold", ("add", 1), ("fail", 5), ("say", 2), ("add", 3)), "p", 7)
        self.assertEqual([run.step(), run.step()], ["a", "b"])
        self.stands(run, False, [("b", 5)])
        self.assertEqual(run.step(), "c")
        self.ends(run, 21, [("b", 5)])

    def test_round_is_over_behind_the_last(self):
        run = begin(hall_of("round", "hold", ("add", 2), ("add", 3)), "p", 1)
        self.assertEqual(run.step(), "a")
        self.stands(run, False)
        self.assertEqual(run.step(), "b")
        self.ends(run, 632)

    def test_one_that_says_does_not_end_all_and_chain(self):
        for kind, answer in (("all", [("a", 2), ("b", 8)]), ("chain", 3)):
            run = begin(hall_of(kind, "hold", ("say", 2), ("add", 1)), "p", 7)
            self.assertEqual(run.step(), "a")
            self.stands(run, False)
            self.assertEqual(run.step(), "b")
            self.ends(run, answer)

    def test_a_fault_handed_on(self):
        for kind in KINDS:
            with self.subTest(kind=kind):
                run = begin(hall_of(kind, "hand", ("none",), ("fail", 6), ("say", 1), ("fail", 5)), "p", 7)
                self.assertEqual(run.step(), "a")
                self.stands(run, False)
                self.hands_on(run, "b", 6)

    def test_a_fault_handed_on_by_the_last(self):
        for kind in KINDS:
            with self.subTest(kind=kind):
                self.hands_on(begin(hall_of(kind, "hand", ("fail", 0)), "p", 7), "a", 0)

    def hands_on(self, run, piece, code):
        with self.assertRaises(DeedFault) as caught:
            run.step()
        self.assertIs(type(caught.exception), DeedFault)
        self.assertEqual((caught.exception.piece, caught.exception.code), (piece, code))
        for turn in range(2):
            self.stands(run, True)
            self.silent(run)
            self.assertIsNone(run.step())

    def test_in_the_order_at_the_place(self):
        hall = hall_of("all", "hold", ("add", 1), ("add", 2), ("add", 3))
        hall.wish("c", ahead=["a"])
        run = begin(hall, "p", 0)
        self.assertEqual([run.step() for turn in range(5)], ["b", "c", "a", None, None])
        self.ends(run, [("b", 2), ("c", 3), ("a", 1)])

    def test_a_refused_answer_changes_nothing(self):
        run = begin(hall_of("chain", "hold", ("add", 1), ("add", 2)), "p", 0)
        self.silent(run)
        self.silent(run)
        self.assertEqual([run.step(), run.step(), run.step()], ["a", "b", None])
        self.ends(run, 3)

    def test_lists_handed_back_are_the_askers(self):
        run = begin(hall_of("all", "hold", ("fail", 1), ("add", 2), ("fail", 3)), "p", 0)
        run.step()
        early = run.faults()
        early.append("x")
        run.faults().clear()
        self.assertEqual(run.faults(), [("a", 1)])
        run.step()
        run.step()
        self.assertEqual(early, [("a", 1), "x"])
        run.answer().clear()
        run.answer().append("x")
        run.faults().clear()
        self.ends(run, [("b", 2)], [("a", 1), ("c", 3)])

    def test_the_hall_is_not_changed(self):
        for kind in KINDS:
            hall = hall_of(kind, "hold", *DEEDS)
            before = picture(hall)
            run = begin(hall, "p", 1)
            while not run.over():
                run.step()
            run.answer()
            self.assertEqual(picture(hall), before)

    def test_two_runs_share_nothing(self):
        hall = hall_of("round", "hold", ("add", 1), ("fail", 2), ("add", 3))
        one, other = begin(hall, "p", 0), begin(hall, "p", 5)
        self.assertEqual([one.step(), one.step(), other.step()], ["a", "b", "a"])
        self.assertEqual((one.faults(), other.faults()), ([("b", 2)], []))
        self.assertEqual([other.step(), other.step(), one.step()], ["b", "c", "c"])
        self.ends(one, 431, [("b", 2)])
        self.ends(other, 931, [("b", 2)])

    def test_step_by_step_as_at_once(self):
        for seed in range(400):
            dice = random.Random(seed)
            hall = any_hall(dice, dice.choice(KINDS), "hold")
            run = begin(hall, "p", 4)
            names = []
            while not run.over():
                self.silent(run)
                names.append(run.step())
            self.assertEqual(names, order(hall, "p")[:len(names)])
            self.assertEqual((run.answer(), run.faults()), call(hall, "p", 4))


class Meanwhile(CallTest):
    # What happens to the hall behind begin does not change the run.
    def same_after(self, change):
        for kind in KINDS:
            for early in range(4):
                with self.subTest(kind=kind, early=early):
                    hall = hall_of(kind, "hold", ("add", 1), ("fail", 2), ("none",), ("add", 3))
                    hall.wish("d", ahead=["b"])
                    expected = call(hall, "p", 5)
                    row = order(hall, "p")
                    run = begin(hall, "p", 5)
                    names = [run.step() for turn in range(early)]
                    change(hall)
                    names += [run.step() for turn in range(4 - early)]
                    self.assertEqual([name for name in names if name], row if kind != "first" else ["a"])
                    self.ends(run, expected[0], expected[1])

    def test_one_comes(self):
        def change(hall):
            hall.hang("e", "p", ("say", 9))
            hall.wish("e", ahead=["a", "b", "c", "d"])
        self.same_after(change)

    def test_one_goes(self):
        for name in "abcd":
            self.same_after(lambda hall: hall.drop(name))

    def test_all_go_and_come_again_with_other_deeds(self):
        def change(hall):
            for name in "abcd":
                hall.drop(name)
            for name in "dcba":
                hall.hang(name, "p", ("say", 77))
        self.same_after(change)

    def test_switched_off(self):
        for name in "abcd":
            self.same_after(lambda hall: hall.switch(name, False))

    def test_switched_on(self):
        hall = hall_of("chain", "hold", ("add", 1), ("add", 2))
        hall.switch("b", False)
        run = begin(hall, "p", 0)
        hall.switch("b", True)
        self.assertEqual([run.step(), run.step()], ["a", None])
        self.ends(run, 1)

    def test_switched_off_and_on_again(self):
        def change(hall):
            hall.switch("b", False)
            hall.switch("b", True)
        self.same_after(change)

    def test_wishes(self):
        self.same_after(lambda hall: hall.wish("c", ahead=["a", "b", "d"]))
        self.same_after(lambda hall: hall.wish("a", ahead=["a"]))

    def test_another_run_and_other_calls(self):
        def change(hall):
            begin(hall, "p", 8).step()
            call(hall, "p", 9)
            mattering(hall, "p", 10)
        self.same_after(change)

    def test_one_that_comes_behind_the_end(self):
        hall = hall_of("chain", "hold", ("add", 1))
        run = begin(hall, "p", 0)
        run.step()
        hall.hang("b", "p", ("add", 2))
        self.ends(run, 1)

    def test_one_that_comes_to_an_empty_place(self):
        hall = hall_of("first", "hold")
        run = begin(hall, "p", 0)
        hall.hang("a", "p", ("add", 2))
        self.ends(run, None)

    def test_a_fault_is_handed_on_by_one_that_went(self):
        hall = hall_of("all", "hand", ("add", 1), ("fail", 2))
        run = begin(hall, "p", 0)
        hall.drop("b")
        self.assertEqual(run.step(), "a")
        with self.assertRaises(DeedFault) as caught:
            run.step()
        self.assertEqual((caught.exception.piece, caught.exception.code), ("b", 2))


class Mattering(CallTest):
    def matter(self, hall, number, names):
        before = picture(hall)
        told = mattering(hall, "p", number)
        self.assertIs(type(told), list)
        self.assertEqual(told, list(names))
        self.assertEqual(picture(hall), before)

    def test_no_deeds(self):
        for kind in KINDS:
            for rule in RULES:
                self.matter(hall_of(kind, rule), 1, "")

    def test_another_answer(self):
        self.matter(hall_of("chain", "hold", ("add", 1), ("add", 0), ("none",), ("add", 2)), 5, "ad")
        self.matter(hall_of("chain", "hold", ("add", 1), ("say", 3), ("add", 2)), 5, "bc")
        self.matter(hall_of("chain", "hold", ("add", 1), ("say", 3)), 2, "")
        self.matter(hall_of("chain", "hold", ("add", 1), ("say", 3)), 1, "b")
        self.matter(hall_of("chain", "hold", ("say", 3), ("none",)), 3, "")
        self.matter(hall_of("first", "hold", ("none",), ("say", 3), ("say", 4)), 5, "b")
        self.matter(hall_of("first", "hold", ("say", 3), ("say", 3)), 5, "")
        self.matter(hall_of("first", "hold", ("add", 0)), 5, "a")
        self.matter(hall_of("round", "hold", ("add", 0), ("say", 1), ("add", 3)), 5, "ab")
        self.matter(hall_of("round", "hold", ("add", 0), ("say", 0), ("none",)), 5, "b")
        self.matter(hall_of("round", "hold", ("add", 0)), 0, "")

    def test_at_all_each_that_did_not_fall(self):
        self.matter(hall_of("all", "hold", ("none",), ("say", 1), ("add", 0)), 1, "abc")
        self.matter(hall_of("all", "hand", ("none",), ("say", 1), ("add", 0)), 1, "abc")

    def test_two_with_the_same_answer(self):
        # Either may go, and the other one says the same.
        self.matter(hall_of("chain", "hold", ("add", 4), ("say", 4), ("say", 4)), 0, "")

    def test_other_faults_held(self):
        for kind in KINDS:
            hall = hall_of(kind, "hold", ("fail", 1), ("fail", 1))
            self.matter(hall, 5, "ab")

    def test_a_fault_that_is_not_done(self):
        for kind in ("first", "round"):
            self.matter(hall_of(kind, "hold", ("fail", 1), ("say", 5), ("fail", 2)), 5, "ab")

    def test_one_that_keeps_a_fault_from_being_done(self):
        # The answer stays 5 without b, but the fault of c is held then.
        self.matter(hall_of("round", "hold", ("none",), ("say", 5), ("fail", 2)), 5, "b")
        self.matter(hall_of("first", "hold", ("none",), ("say", 5), ("fail", 2), ("say", 5)), 5, "b")
        self.matter(hall_of("first", "hold", ("none",), ("say", 5), ("say", 5), ("fail", 2)), 5, "")

    def test_the_same_faults_in_another_order(self):
        # c holds a back behind b; once c is gone, a is ahead of b again.
        hall = hall_of("chain", "hold", ("fail", 1), ("fail", 2), ("none",))
        hall.wish("c", ahead=["a"])
        self.assertEqual(order(hall, "p"), ["b", "c", "a"])
        self.matter(hall, 5, "bca")

    def test_without_that_order_it_does_not_matter(self):
        hall = hall_of("chain", "hold", ("fail", 1), ("fail", 2), ("none",))
        self.matter(hall, 5, "ab")

    def test_the_same_faults_told_by_one_code_in_another_order(self):
        hall = hall_of("chain", "hold", ("fail", 1), ("fail", 1), ("none",))
        hall.wish("c", ahead=["a"])
        self.matter(hall, 5, "bca")

    def test_one_whose_going_changes_the_order_of_the_others(self):
        hall = hall_of("chain", "hold", ("say", 1), ("say", 2), ("none",))
        hall.wish("c", ahead=["a"])
        # b, c, a answers 1; a, b answers 2. Without b the answer stays.
        self.matter(hall, 5, "ca")
        hall = hall_of("first", "hold", ("say", 1), ("say", 2), ("say", 3))
        hall.wish("c", ahead=["a"])
        # b, c, a answers 2, and c is not done; a, b answers 1.
        self.matter(hall, 5, "bc")

    def test_one_whose_going_sets_a_pair_loose(self):
        # c ahead of b, b ahead of a: only through b is c ahead of a.
        hall = hall_of("chain", "hold", ("say", 1), ("none",), ("say", 2))
        hall.wish("b", ahead=["a"], behind=["c"])
        self.assertEqual(order(hall, "p"), ["c", "b", "a"])
        self.matter(hall, 5, "ba")

    def test_another_fault_handed_on(self):
        self.matter(hall_of("chain", "hand", ("add", 3), ("fail", 1), ("fail", 2), ("add", 4)), 5, "b")

    def test_another_piece_with_the_same_code_is_another_fault(self):
        for kind in KINDS:
            self.matter(hall_of(kind, "hand", ("none",), ("fail", 1), ("fail", 1)), 5, "b")

    def test_another_fault_handed_on_by_another_order(self):
        hall = hall_of("all", "hand", ("fail", 1), ("fail", 2), ("none",))
        hall.wish("c", ahead=["a"])
        # b, c, a falls with b; without c, a falls.
        self.matter(hall, 5, "bc")

    def test_a_fault_where_there_was_none(self):
        for kind in ("first", "round"):
            self.matter(hall_of(kind, "hand", ("none",), ("say", 5), ("fail", 1)), 5, "b")

    def test_none_where_there_was_a_fault(self):
        for kind in KINDS:
            self.matter(hall_of(kind, "hand", ("none",), ("fail", 1), ("none",)), 5, "b")

    def test_ahead_of_and_behind_a_fault_handed_on_nothing_matters(self):
        self.matter(hall_of("all", "hand", ("say", 1), ("fail", 1), ("say", 2)), 5, "b")

    def test_in_the_order_at_the_place(self):
        hall = hall_of("all", "hold", ("say", 1), ("say", 2), ("fail", 3), ("say", 4))
        hall.wish("d", ahead=["a"])
        self.matter(hall, 5, "bcda")

    def test_those_off_and_elsewhere_do_not_matter(self):
        hall = hall_of("all", "hold", ("say", 1), ("say", 2))
        hall.open_place("q", "all", "hold")
        hall.hang("z", "q", ("say", 1))
        hall.switch("a", False)
        self.matter(hall, 5, "b")

    def test_those_off_stay_off(self):
        # Without b the answer would be another one if a were called.
        hall = hall_of("first", "hold", ("say", 1), ("say", 2), ("say", 2))
        hall.switch("a", False)
        self.matter(hall, 5, "")

    def test_the_number_counts(self):
        hall = hall_of("chain", "hold", ("say", 3))
        self.matter(hall, 3, "")
        self.matter(hall, 4, "a")
        self.matter(hall_of("chain", "hold", ("say", HUGE)), HUGE, "")
        self.matter(hall_of("chain", "hold", ("say", HUGE)), -HUGE, "a")

    def test_those_it_brought_stay(self):
        hall = hall_of("chain", "hold", ("none",))
        hall.hang("b", "p", ("add", 1), "a")
        self.matter(hall, 5, "b")

    def test_the_list_is_fresh(self):
        hall = hall_of("chain", "hold", ("add", 3))
        mattering(hall, "p", 1).clear()
        self.matter(hall, 1, "a")

    def test_a_full_place(self):
        hall = hall_of("chain", "hold", *[("add", number % 2) for number in range(24)])
        hall.wish("x", ahead=list(LETTERS[:23]))
        self.matter(hall, 1, "x" + LETTERS[1:23:2])

    def test_against_switching_off(self):
        for seed in range(1500):
            dice = random.Random(seed)
            hall = any_hall(dice, dice.choice(KINDS), dice.choice(RULES))
            with self.subTest(seed=seed):
                self.matter(hall, 2, matters_by_switching(hall, "p", 2))


class AgainstThePoints(CallTest):
    # Halls made by chance, against the points told anew in this file.
    def test_calls(self):
        for seed in range(1500):
            dice = random.Random(seed)
            kind, rule = dice.choice(KINDS), dice.choice(RULES)
            hall = any_hall(dice, kind, rule, 9)
            named = [(name, hall.pieces[name].deed) for name in order(hall, "p")]
            with self.subTest(seed=seed):
                self.assertEqual(ending(hall, "p", -3), ending_of(kind, rule, named, -3))


class ManyPlaces(CallTest):
    def test_runs_at_two_places_of_one_hall(self):
        hall = hall_with("p")
        hall.open_place("q", "chain", "hand")
        hall.hang("a", "p", ("fail", 1))
        hall.hang("b", "q", ("fail", 1))
        self.answers(hall, 0, [], [("a", 1)])
        self.assertEqual(begin(hall, "p", 0).step(), "a")
        self.refused(hall, DeedFault, call, hall, "q", 0)
        self.refused(hall, DeedFault, begin(hall, "q", 0).step)


if __name__ == "__main__":
    unittest.main()
