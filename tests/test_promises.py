"""What DOC.md promises of every line, and many lines against a second program that tries out all rows."""

import random
import unittest

from tests.helper import (BIG, COUNT, PAIRS, RINGS, THREE_STABLE, Plain, PlainGroup, ask, ask_after, check, circle,
                          give_list, nth, open_group, partners, prove)


def some_lists(source, guests, fullness):
    lists = []
    for guest in range(1, guests + 1):
        others = [other for other in range(1, guests + 1) if other != guest and source.random() < fullness]
        source.shuffle(others)
        lists.append(others)
    return lists


def renamed(source, lists):
    """The same likings with the guests' numbers dealt anew."""
    names = source.sample(range(1, len(lists) + 1), len(lists))
    dealt = [[] for guest in lists]
    for guest, others in enumerate(lists):
        dealt[names[guest] - 1] = [names[other - 1] for other in others]
    return dealt


def some_groups():
    source = random.Random(7)
    for guests in range(1, 8):
        for fullness in (0.3, 0.7, 1, 1):
            for turn in range(12):
                yield some_lists(source, guests, fullness)
    for guests in range(3, 8):
        yield circle(guests)
    for turn in range(8):
        yield renamed(source, circle(4))
        yield renamed(source, circle(6))
        yield renamed(source, circle(4) + [[6], [5], []])
        yield renamed(source, THREE_STABLE)


class PromisesTest(unittest.TestCase):
    def test_a_stable_pairing_or_rings_with_odd_guests(self):
        with_none = 0
        for lists in some_groups():
            with self.subTest(lists=lists):
                guests = len(lists)
                pairs, rings, count = ask_after(lists, PAIRS, RINGS, COUNT)
                self.assertEqual(rings[:2], [0, 1])
                row = rings[2:2 + guests]
                odd = rings[3 + guests:]
                self.assertEqual(rings[2 + guests], len(odd))
                self.assertEqual(ask_after(lists, prove(row)), [[0, 0, len(odd)] + odd])
                if pairs[1] == 1:
                    self.assertEqual(odd, [])
                    self.assertEqual(ask_after(lists, check(pairs[2:]), nth(1)), [[0, 0], [0] + pairs[2:]])
                else:
                    with_none += 1
                    self.assertEqual(pairs, [0, 0])
                    self.assertGreaterEqual(len(odd), 3)
                    self.assertEqual(count[2], 0)
        self.assertGreater(with_none, 20)

    def test_the_same_guests_are_alone_and_likings_are_set_against_each_other(self):
        several = 0
        for lists in some_groups():
            count = ask_after(lists, COUNT)[0][2]
            stable = [told[1:] for told in ask_after(lists, *[nth(k) for k in range(1, count + 1)])]
            several += count > 1
            plain = Plain(lists)
            for one in stable:
                for other in stable:
                    self.assertEqual([x == 0 for x in one], [x == 0 for x in other])
                    for guest, partner in enumerate(one, start=1):
                        if partner and other[guest - 1] != partner:
                            self.assertNotEqual(plain.better(guest, partner, other[guest - 1]),
                                                plain.better(partner, guest, other[partner - 1]))
        self.assertGreater(several, 10)


class AgainstTheWordsTest(unittest.TestCase):
    def test_all_answers_about_some_groups(self):
        for lists in some_groups():
            with self.subTest(lists=lists):
                plain = Plain(lists)
                stable = plain.stable()
                guests = range(1, len(lists) + 1)
                told = ask_after(lists, PAIRS, RINGS, COUNT, *[partners(guest) for guest in guests])
                self.assertEqual(told[0], [0, 1] + stable[0] if stable else [0, 0])
                self.assertEqual(told[1], [0] + plain.first_rings())
                self.assertEqual(told[2], [0, len(plain.pairings()), len(stable)])
                self.assertEqual(told[3:], [[0] + plain.partners(guest) for guest in guests])
                told = ask_after(lists, *[nth(k) for k in range(1, len(stable) + 2)])
                self.assertEqual(told, [[0] + row for row in stable] + [[-7]])

    def test_check_and_prove_of_many_rows(self):
        source = random.Random(11)
        for lists in some_groups():
            plain = Plain(lists)
            guests = len(lists)
            pairings = plain.pairings()
            rows = [source.choice(pairings) for turn in range(4)]
            rows += [source.sample(range(1, guests + 1), guests) for turn in range(8)]
            rows += [[source.randint(0, min(7, guests + 1)) for guest in range(guests)] for turn in range(3)]
            rows += [[partner or guest for guest, partner in enumerate(row, start=1)] for row in rows[:4]]
            for row in rows:
                with self.subTest(lists=lists, row=row):
                    self.assertEqual(ask_after(lists, check(row), prove(row)),
                                     [[0] + plain.judge_pairing(row), [0] + plain.judge_rings(row)])

    def some_number(self, source, most):
        return source.choice([source.randint(1, most)] * 12 + [0, 7, 8, -1, BIG, -BIG, 1000, 1001])

    def some_call(self, source, guests):
        kind = source.choice([0, 1, 1, 1, 1, 1, 1, 1, 1, 2, 3, 4, 4, 5, 5, 6, 7, 8])
        told = []
        row = []
        if kind == 8:
            told = [self.some_number(source, 2)]
        elif kind in (0, 1, 6):
            told = [self.some_number(source, guests)]
        if kind == 1:
            row = [other for other in range(1, guests + 1) if other != told[0]]
            source.shuffle(row)
            row = row[:source.choice([0, 1, 2, 7, 7, 7])]
        elif kind in (4, 5):
            row = [source.randint(kind - 4, guests) for guest in range(guests)]
            if source.random() < 0.6:
                row = source.sample(range(1, guests + 1), guests)
        if kind in (1, 4, 5) and source.random() < 0.15:
            row = row + [source.choice([0, 1, 2, 3, 7, 8, -1, BIG])]
        return kind, told, row

    def test_lines_of_all_kinds_of_calls(self):
        source = random.Random(13)
        for turn in range(120):
            guests = source.choice([1, 2, 3, 3, 4, 4, 5, 5, 6])
            calls = [self.some_call(source, guests) for place in range(source.randint(0, 3))]
            calls.append((0, [guests], []))
            calls += [self.some_call(source, guests) for place in range(60)]
            other = PlainGroup()
            wanted = [other.answer(*call) for call in calls]
            written = [[kind] + told + ([len(row)] + row if kind in (1, 4, 5) else []) for kind, told, row in calls]
            with self.subTest(turn=turn):
                self.assertEqual(ask(written), wanted)

    def test_lists_given_anew_again_and_again(self):
        source = random.Random(17)
        lists = some_lists(source, 5, 1)
        calls = [open_group(5)] + [give_list(guest, others) for guest, others in enumerate(lists, start=1)]
        wanted = [[0]] * 6
        for turn in range(60):
            guest = source.randint(1, 5)
            lists[guest - 1] = some_lists(source, 5, 0.8)[guest - 1]
            plain = Plain(lists)
            calls += [give_list(guest, lists[guest - 1]), COUNT, partners(guest)]
            wanted += [[0], [0, len(plain.pairings()), len(plain.stable())], [0] + plain.partners(guest)]
        self.assertEqual(ask(calls), wanted)


if __name__ == "__main__":
    unittest.main()
