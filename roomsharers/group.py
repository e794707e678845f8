"""One group of guests, and the calls on it."""

from roomsharers.calls import BEGIN, BLOCKS, CHECK, COUNT, JOIN, LONGEST_ROWS, MEDIAN, NTH, PAIRS, PARTNERS
from roomsharers.calls import PREFER, PROVE, RINGS, ROOMS, SETTLE, TAKE_LIST, in_range, read_calls
from roomsharers.likings import may_share, would_rather_share
from roomsharers.pairings import gone_together, is_pairing, middle_pairing, stable_pairings
from roomsharers.telling import tell_blocks, tell_check, tell_count, tell_lists, tell_pairs, tell_partners
from roomsharers.telling import tell_prefer, tell_prove, tell_rings, tell_rooms, tell_settle

OUT_OF_RANGE = -1
NOT_BEGUN = -2
BEGUN_ALREADY = -3
NO_SUCH_GUEST = -4
WRONG_LIST = -5
WRONG_LENGTH = -6
NOT_SO_MANY = -7
NO_PAIRING = -8
NOT_WITH_ONE_ANOTHER = -9
NOTHING_BOOKED = -10


class Group:
    """A group; with 0 guests it isn't there yet, and with an empty row nothing is booked."""

    def __init__(self):
        self.guests = 0
        self.lists = [[]]
        self.booked = []

    def answer(self, call, told, row):
        if not in_range(call, told, row):
            return [OUT_OF_RANGE]
        if call == BEGIN:
            return self.begin(told[0])
        if self.guests == 0:
            return [NOT_BEGUN]
        if call == TAKE_LIST:
            return self.take_list(told[0], row)
        if call in LONGEST_ROWS:
            return self.judge(call, told, row)
        if call == NTH or call == MEDIAN:
            return self.choose(call, told)
        if call == PARTNERS or call == PREFER:
            return self.ask_guest(call, told)
        if call == ROOMS or call == JOIN:
            return self.look_up_booked(call, told)
        return self.survey(call)

    def begin(self, guests):
        if self.guests != 0:
            return [BEGUN_ALREADY]
        self.guests = guests
        self.lists = [[] for guest in range(guests + 1)]
        return [0]

    def take_list(self, guest, others):
        if guest > self.guests:
            return [NO_SUCH_GUEST]
        for other in others:
            if other == 0 or other > self.guests or other == guest or others.count(other) > 1:
                return [WRONG_LIST]
        self.lists[guest] = list(others)
        return [0]

    def judge(self, call, told, row):
        if len(row) != self.guests:
            return [WRONG_LENGTH]
        if call == CHECK:
            return [0] + tell_check(self.lists, row)
        if call == PROVE:
            return [0] + tell_prove(self.lists, row)
        if not is_pairing(self.lists, row):
            return [NO_PAIRING]
        if call == BLOCKS:
            return [0] + tell_blocks(self.lists, row)
        if call == SETTLE:
            return [0] + tell_settle(self.lists, told[0], row)
        return self.book(row)

    def book(self, pairing):
        self.booked = list(pairing)
        return [0, pairing.count(0)]

    def choose(self, call, places):
        stable = stable_pairings(self.lists)
        if max(places) > len(stable):
            return [NOT_SO_MANY]
        chosen = [stable[place - 1] for place in places]
        if call == NTH:
            return [0] + chosen[0]
        return [0] + middle_pairing(self.lists, chosen)

    def ask_guest(self, call, told):
        if max(told) > self.guests:
            return [NO_SUCH_GUEST]
        if call == PARTNERS:
            return [0] + tell_partners(self.lists, told[0])
        return self.prefer(told[0], told[1], told[2])

    def prefer(self, guest, one, other):
        for asked in (one, other):
            if asked != 0 and not may_share(self.lists, guest, asked):
                return [NOT_WITH_ONE_ANOTHER]
        return [0] + tell_prefer(self.lists, guest, one, other)

    def look_up_booked(self, call, told):
        if self.booked == []:
            return [NOTHING_BOOKED]
        if call == ROOMS:
            return [0] + tell_rooms(self.lists, self.booked)
        return self.bring_together(told[0], told[1])

    def bring_together(self, one, other):
        if max(one, other) > self.guests:
            return [NO_SUCH_GUEST]
        if not is_pairing(self.lists, self.booked):
            return [NO_PAIRING]
        if not would_rather_share(self.lists, self.booked, one, other):
            return [NOT_WITH_ONE_ANOTHER]
        self.booked = gone_together(self.booked, one, other)
        return [0] + self.booked

    def survey(self, call):
        if call == PAIRS:
            return [0] + tell_pairs(self.lists)
        if call == RINGS:
            return [0] + tell_rings(self.lists)
        if call == COUNT:
            return [0] + tell_count(self.lists)
        return [0] + tell_lists(self.lists)


def answers(calls):
    """For each call, in order, how many numbers are answered, and these."""
    group = Group()
    told = []
    for call in read_calls(calls):
        answer = group.answer(call[0], call[1], call[2])
        told.append(len(answer))
        told.extend(answer)
    return told
