"""Calls over the deeds at a place: done at once, step by step, or to see which pieces matter."""

from hookhall.errors import DeedFault, NoAnswer
from hookhall.ordering import order, order_among


class Run:
    # A run has the names and deeds for itself: whatever happens to the hall meanwhile is not to change it.
    def __init__(self, kind, rule, number, deeds):
        self.kind = kind
        self.rule = rule
        self.number = number
        self.deeds = list(deeds)
        self.held = []
        self.broken = False
        self.pairs = []
        self.found = None
        self.around = []

    def over(self):
        return not self.deeds

    def step(self):
        if self.over():
            return None
        pair = self.deeds.pop(0)
        self.perform(pair[0], pair[1])
        return pair[0]

    def answer(self):
        if self.broken or not self.over():
            raise NoAnswer("the run has no answer")
        if self.kind == "all":
            return list(self.pairs)
        if self.kind == "first":
            return self.found
        if self.kind == "chain":
            return self.number
        return brought_back(self.number, self.around)

    def faults(self):
        return list(self.held)

    def perform(self, name, deed):
        if deed[0] == "fail":
            self.fall(name, deed[1])
        elif self.kind == "all":
            self.pairs.append((name, said(deed, self.number)))
        elif self.kind == "round":
            self.go_within(deed)
        elif deed[0] != "none":
            self.hear(said(deed, self.number))

    def fall(self, name, code):
        if self.rule == "hand":
            self.broken = True
            self.leave_the_rest()
            raise DeedFault(name, code)
        self.held.append((name, code))

    def go_within(self, deed):
        if deed[0] == "add":
            self.around.append(deed[1])
            self.number = said(deed, self.number)
        elif deed[0] == "say":
            self.number = said(deed, self.number)
            self.leave_the_rest()

    def hear(self, number):
        if self.kind == "first":
            self.found = number
            self.leave_the_rest()
        else:
            self.number = number

    def leave_the_rest(self):
        self.deeds.clear()


def said(deed, number):
    if deed[0] == "add":
        return number + deed[1]
    if deed[0] == "say":
        return deed[1]
    return None


def brought_back(number, around):
    back = number
    for own in reversed(around):
        back = back * 10 + own
    return back


def begin(hall, place, number):
    return begin_over(hall, place, hall.at(place), number)


def begin_over(hall, place, names, number):
    spot = hall.find_place(place)
    deeds = [(name, hall.find_piece(name).deed) for name in order_among(hall, names)]
    return Run(spot.kind, spot.rule, number, deeds)


def call(hall, place, number):
    return finish(begin(hall, place, number))


def finish(run):
    while not run.over():
        run.step()
    return (run.answer(), run.faults())


def mattering(hall, place, number):
    whole = outcome(begin(hall, place, number))
    return [name for name in order(hall, place) if outcome(begin_without(hall, place, name, number)) != whole]


def begin_without(hall, place, name, number):
    # The others are put in order anew: the one that is gone may have held two of them apart.
    others = [other for other in hall.at(place) if other != name]
    return begin_over(hall, place, others, number)


def outcome(run):
    # The word in front tells a fault handed on from an answer.
    try:
        ended = finish(run)
    except DeedFault as fault:
        return ("fault", (fault.piece, fault.code))
    return ("answer", ended)
