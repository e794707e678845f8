"""What the tests share: how calls are written, and a second program, made from DOC.md's words by trying out all rows."""

from itertools import permutations

from roomsharers.group import answers

BIG = 1000000000000000000


def open_group(guests):
    return [0, guests]


def give_list(guest, others):
    return [1, guest, len(others)] + list(others)


# The likings of 1, 2, 3 and those of 4, 5, 6 run against each other, so there are three stable pairings.
THREE_STABLE = [[4, 5, 6], [5, 6, 4], [6, 4, 5], [2, 3, 1], [3, 1, 2], [1, 2, 3]]
# Four stable pairings; the third is the middle of the other three.
FOUR_STABLE = [[6, 2, 5, 3, 4], [3, 4, 6, 5, 1], [5, 6, 1, 2, 4], [3, 1, 2, 6, 5], [2, 1, 6, 3, 4], [4, 3, 1, 5, 2]]
# Everybody likes all others, in the same order.
SAME_ORDER = [[other for other in range(1, 8) if other != guest] for guest in range(1, 8)]
# In circle(4): not told back, told another, who may not share, themselves, and two who aren't there.
NO_PAIRINGS = ([2, 0, 0, 0], [2, 3, 2, 0], [3, 0, 1, 0], [1, 0, 0, 0], [5, 0, 0, 0], [7, 0, 0, 0])

PAIRS = [2]
RINGS = [3]
COUNT = [7]
ROOMS = [14]
LISTS = [16]


def check(row):
    return [4, len(row)] + list(row)


def prove(row):
    return [5, len(row)] + list(row)


def partners(guest):
    return [6, guest]


def nth(k):
    return [8, k]


def median(x, y, z):
    return [9, x, y, z]


def blocks(row):
    return [10, len(row)] + list(row)


def settle(times, row):
    return [11, times, len(row)] + list(row)


def prefer(guest, a, b):
    return [12, guest, a, b]


def book(row):
    return [13, len(row)] + list(row)


def join(one, other):
    return [15, one, other]


def group(*lists):
    """The calls that open a group and give each guest's list."""
    calls = [open_group(len(lists))]
    for guest, others in enumerate(lists, start=1):
        calls.append(give_list(guest, others))
    return calls


def line(calls):
    return [number for call in calls for number in call]


def split_answers(told):
    found = []
    at = 0
    while at < len(told):
        found.append(told[at + 1:at + 1 + told[at]])
        if len(found[-1]) != told[at]:
            raise AssertionError("an answer is cut off")
        at += 1 + told[at]
    return found


def ask(calls):
    """One answer for each call."""
    found = split_answers(answers(line(calls)))
    if len(found) != len(calls):
        raise AssertionError(f"{len(calls)} calls, {len(found)} answers")
    return found


def ask_after(lists, *calls):
    """The answers to the calls on an open group with these lists."""
    before = group(*lists)
    return ask(before + list(calls))[len(before):]


def circle(guests):
    """Lists on which everybody has the one behind and then the one ahead, round and round."""
    return [[i % guests + 1, (i - 2) % guests + 1] for i in range(1, guests + 1)]


class Plain:
    """The words of DOC.md for given lists, without a thought for speed."""

    def __init__(self, lists):
        self.lists = {guest: list(others) for guest, others in enumerate(lists, start=1)}
        self.all = sorted(self.lists)
        self.found = None

    def share(self, a, b):
        return b in self.lists.get(a, []) and a in self.lists.get(b, [])

    def better(self, guest, a, b):
        order = self.lists[guest] + [0]
        alone = (0, guest)
        return order.index(0 if a in alone else a) < order.index(0 if b in alone else b)

    def rather(self, than):
        return [(a, b) for a in self.all for b in self.all
                if a < b and self.share(a, b) and self.better(a, b, than[a]) and self.better(b, a, than[b])]

    def is_pairing(self, row):
        told = dict(zip(self.all, row))
        return all(p == 0 or (self.share(g, p) and told[p] == g) for g, p in told.items())

    def pairings(self):
        # As everybody's partner is told back, a pairing has each guest just once, but for 0 in the place of the alone.
        if self.found is None:
            rows = [[0 if g == p else p for g, p in zip(self.all, row)] for row in permutations(self.all)]
            self.found = sorted(row for row in rows if self.is_pairing(row))
        return self.found

    def stable(self):
        return [row for row in self.pairings() if not self.rather(dict(zip(self.all, row)))]

    def is_rings(self, row):
        return sorted(row) == self.all and all(g == n or self.share(g, n) for g, n in zip(self.all, row))

    def judge_rings(self, row):
        if not self.is_rings(row):
            return [1]
        after = dict(zip(self.all, row))
        before = {n: g for g, n in after.items()}
        for guest in self.all:
            if after[guest] != before[guest] and not self.better(guest, after[guest], before[guest]):
                return [2, guest]
        rather = self.rather(before)
        if rather:
            return [3] + list(rather[0])
        odd = self.odd(after)
        return [0, len(odd)] + odd

    def odd(self, after):
        found = []
        for guest in self.all:
            ring = [guest]
            while after[ring[-1]] != guest:
                ring.append(after[ring[-1]])
            if len(ring) in (3, 5, 7):
                found.append(guest)
        return found

    def first_rings(self):
        for row in permutations(self.all):
            judged = self.judge_rings(row)
            if judged[0] == 0:
                return [1] + list(row) + judged[1:]
        return [0]

    def judge_pairing(self, row):
        if not self.is_pairing(row):
            return [1]
        rather = self.rather(dict(zip(self.all, row)))
        return [2] + list(rather[0]) if rather else [0]

    def partners(self, guest):
        found = {row[guest - 1] for row in self.stable()}
        ordered = [p for p in self.lists[guest] + [0] if p in found]
        return [len(ordered)] + ordered

    def prefer(self, guest, a, b):
        return 1 if self.better(guest, a, b) else 2 if self.better(guest, b, a) else 0

    def blocks(self, row):
        rather = self.rather(dict(zip(self.all, row)))
        return [len(rather)] + [guest for pair in rather for guest in pair]

    def together(self, row, one, other):
        rooms = [{guest, partner} for guest, partner in zip(self.all, row) if partner and guest < partner]
        rooms = [room for room in rooms if one not in room and other not in room] + [{one, other}]
        return [next((sum(room) - guest for room in rooms if guest in room), 0) for guest in self.all]

    def settle(self, times, row):
        for done in range(times):
            rather = self.rather(dict(zip(self.all, row)))
            if not rather:
                return [done] + row
            row = self.together(row, *rather[0])
        return [times] + row

    def middle_of(self, guest, told):
        for partner in told:
            if told.count(partner) > 1:
                return partner
        for partner in told:
            if sum(self.better(guest, partner, other) for other in told) == 1:
                return partner

    def middle(self, one, two, three):
        return [self.middle_of(guest, told) for guest, told in zip(self.all, zip(one, two, three))]


class PlainGroup:
    """A group that takes calls one by one, each as its number, its whole numbers and its list."""

    LIMITS = {0: [(1, 7)], 1: [(1, 7)], 6: [(1, 7)], 8: [(1, 1000)], 9: [(1, 1000)] * 3, 11: [(0, 50)],
              12: [(1, 7), (0, 7), (0, 7)], 15: [(1, 7)] * 2}

    def __init__(self):
        self.lists = None
        self.booked = None

    def answer(self, number, told, row):
        for given, (least, most) in zip(told, self.LIMITS.get(number, []), strict=True):
            if not least <= given <= most:
                return [-1]
        if len(row) > (6 if number == 1 else 7) or any(x not in range(8) for x in row):
            return [-1]
        if number == 0:
            if self.lists is not None:
                return [-3]
            self.lists = [[] for guest in range(told[0])]
            self.plain = Plain(self.lists)
            return [0]
        if self.lists is None:
            return [-2]
        return self.answer_open(number, told, row)

    def answer_open(self, number, told, row):
        guests = len(self.lists)
        if number in (1, 6) and told[0] > guests:
            return [-4]
        if number in (4, 5, 10, 11, 13) and len(row) != guests:
            return [-6]
        if number == 1:
            if not set(row) <= set(range(1, guests + 1)) - {told[0]} or len(set(row)) != len(row):
                return [-5]
            self.lists[told[0] - 1] = list(row)
            self.plain = Plain(self.lists)
            return [0]
        if number in (10, 11, 13):
            return self.on_pairing(self.plain, number, told, row)
        if number in (14, 15):
            return self.on_booked(self.plain, number, told)
        if number == 12:
            return self.prefer(self.plain, *told)
        if number == 16:
            return [0, guests] + [x for others in self.lists for x in [len(others)] + others]
        return self.look(self.plain, number, told, row)

    def on_pairing(self, plain, number, told, row):
        if not plain.is_pairing(row):
            return [-8]
        if number == 10:
            return [0] + plain.blocks(row)
        if number == 11:
            return [0] + plain.settle(told[0], row)
        self.booked = list(row)
        return [0, sum(partner == 0 for partner in row)]

    def on_booked(self, plain, number, told):
        if self.booked is None:
            return [-10]
        if number == 14:
            told = [1] + plain.blocks(self.booked) if plain.is_pairing(self.booked) else [0]
            return [0] + self.booked + told
        if not set(told) <= set(plain.all):
            return [-4]
        if not plain.is_pairing(self.booked):
            return [-8]
        if tuple(sorted(told)) not in plain.rather(dict(zip(plain.all, self.booked))):
            return [-9]
        self.booked = plain.together(self.booked, *told)
        return [0] + self.booked

    def prefer(self, plain, guest, a, b):
        if not {guest, a, b} <= set(plain.all + [0]):
            return [-4]
        if not all(plain.share(guest, x) for x in (a, b) if x != 0):
            return [-9]
        return [0, plain.prefer(guest, a, b)]

    def look(self, plain, number, told, row):
        if number == 3:
            return [0] + plain.first_rings()
        if number == 4:
            return [0] + plain.judge_pairing(row)
        if number == 5:
            return [0] + plain.judge_rings(row)
        if number == 6:
            return [0] + plain.partners(told[0])
        stable = plain.stable()
        if number == 2:
            return [0, 1] + stable[0] if stable else [0, 0]
        if number == 7:
            return [0, len(plain.pairings()), len(stable)]
        if any(place > len(stable) for place in told):
            return [-7]
        chosen = [stable[place - 1] for place in told]
        return [0] + (chosen[0] if number == 8 else plain.middle(*chosen))
