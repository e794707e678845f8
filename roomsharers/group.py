"""One group of guests, and the calls on it."""

from roomsharers.calls import BEGIN, CHECK, COUNT, NTH, PAIRS, PARTNERS, PROVE, RINGS, TAKE_LIST
from roomsharers.calls import in_range, read_calls
from roomsharers.pairings import stable_pairings
from roomsharers.telling import tell_check, tell_count, tell_pairs, tell_partners, tell_prove, tell_rings

OUT_OF_RANGE = -1
NOT_BEGUN = -2
BEGUN_ALREADY = -3
NO_SUCH_GUEST = -4
WRONG_LIST = -5
WRONG_LENGTH = -6
NOT_SO_MANY = -7


class Group:
    """A group; with 0 guests it isn't there yet."""

    def __init__(self):
        self.guests = 0
        self.lists = [[]]

    def answer(self, call, told, row):
        if not in_range(call, told, row):
            return [OUT_OF_RANGE]
        if call == BEGIN:
            return self.begin(told[0])
        if self.guests == 0:
            return [NOT_BEGUN]
        if call == TAKE_LIST:
            return self.take_list(told[0], row)
        if call == CHECK or call == PROVE:
            return self.judge(call, row)
        if call == PARTNERS:
            return self.partners(told[0])
        if call == NTH:
            return self.nth(told[0])
        return self.survey(call)

    def begin(self, guests):
        if self.guests != 0:
            return [BEGUN_ALREADY]
        self.guests = guests
        self.lists = [[] for guest in range(guests + 1)]
        return [0]

    def take_list(self, guest, others):
        if guest > self.guests:
            return [NO_SUCH_GUEST]
        for other in others:
            if other == 0 or other > self.guests or other == guest or others.count(other) > 1:
                return [WRONG_LIST]
        self.lists[guest] = list(others)
        return [0]

    def judge(self, call, row):
        if len(row) != self.guests:
            return [WRONG_LENGTH]
        if call == CHECK:
            return [0] + tell_check(self.lists, row)
        return [0] + tell_prove(self.lists, row)

    def partners(self, guest):
        if guest > self.guests:
            return [NO_SUCH_GUEST]
        return [0] + tell_partners(self.lists, guest)

    def nth(self, k):
        stable = stable_pairings(self.lists)
        if k > len(stable):
            return [NOT_SO_MANY]
        return [0] + stable[k - 1]

    def survey(self, call):
        if call == PAIRS:
            return [0] + tell_pairs(self.lists)
        if call == RINGS:
            return [0] + tell_rings(self.lists)
        if call == COUNT:
            return [0] + tell_count(self.lists)
        # The calls from 9 on aren't written yet: they are read past, and no number is answered.
        return []


def answers(calls):
    """For each call, in order, how many numbers are answered, and these."""
    group = Group()
    told = []
    for call in read_calls(calls):
        answer = group.answer(call[0], call[1], call[2])
        told.append(len(answer))
        told.extend(answer)
    return told
