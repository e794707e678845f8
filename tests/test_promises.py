"""What DOC.md promises of every line, and many lines against a second program that tries out all rows."""

import random
import unittest

from tests.helper import (BIG, COUNT, FOUR_STABLE, PAIRS, RINGS, THREE_STABLE, Plain, PlainGroup, ask, ask_after, blocks,
                          check, circle, give_list, median, nth, open_group, partners, prefer, prove, settle)

WITH_ROW = (1, 4, 5, 10, 11, 13)


def some_lists(source, guests, fullness):
    lists = []
    for guest in range(1, guests + 1):
        others = [other for other in range(1, guests + 1) if other != guest and source.random() < fullness]
        source.shuffle(others)
        lists.append(others)
    return lists


def renamed(source, lists):
    """The same likings with the guests' numbers dealt anew."""
    names = source.sample(range(1, len(lists) + 1), len(lists))
    dealt = [[] for guest in lists]
    for guest, others in enumerate(lists):
        dealt[names[guest] - 1] = [names[other - 1] for other in others]
    return dealt


def some_groups():
    source = random.Random(7)
    for guests in range(1, 8):
        for fullness in (0.3, 0.7, 1, 1):
            for turn in range(12):
                yield some_lists(source, guests, fullness)
    for guests in range(3, 8):
        yield circle(guests)
    for turn in range(8):
        yield renamed(source, circle(4))
        yield renamed(source, circle(6))
        yield renamed(source, circle(4) + [[6], [5], []])
        yield renamed(source, THREE_STABLE)
        yield renamed(source, FOUR_STABLE)


class PromisesTest(unittest.TestCase):
    def test_a_stable_pairing_or_rings_with_odd_guests(self):
        with_none = 0
        for lists in some_groups():
            with self.subTest(lists=lists):
                guests = len(lists)
                pairs, rings, count = ask_after(lists, PAIRS, RINGS, COUNT)
                self.assertEqual(rings[:2], [0, 1])
                row = rings[2:2 + guests]
                odd = rings[3 + guests:]
                self.assertEqual(rings[2 + guests], len(odd))
                self.assertEqual(ask_after(lists, prove(row)), [[0, 0, len(odd)] + odd])
                if pairs[1] == 1:
                    self.assertEqual(odd, [])
                    self.assertEqual(ask_after(lists, check(pairs[2:]), nth(1)), [[0, 0], [0] + pairs[2:]])
                else:
                    with_none += 1
                    self.assertEqual(pairs, [0, 0])
                    self.assertGreaterEqual(len(odd), 3)
                    self.assertEqual(count[2], 0)
        self.assertGreater(with_none, 20)

    def test_the_same_guests_are_alone_and_likings_are_set_against_each_other(self):
        several = 0
        for lists in some_groups():
            count = ask_after(lists, COUNT)[0][2]
            stable = [told[1:] for told in ask_after(lists, *[nth(k) for k in range(1, count + 1)])]
            several += count > 1
            plain = Plain(lists)
            for one in stable:
                for other in stable:
                    self.assertEqual([x == 0 for x in one], [x == 0 for x in other])
                    for guest, partner in enumerate(one, start=1):
                        if partner and other[guest - 1] != partner:
                            self.assertNotEqual(plain.better(guest, partner, other[guest - 1]),
                                                plain.better(partner, guest, other[partner - 1]))
        self.assertGreater(several, 10)

    def test_the_middle_of_three_is_stable(self):
        fourth = 0
        for lists in some_groups():
            count = ask_after(lists, COUNT)[0][2]
            places = range(1, count + 1)
            stable = [told[1:] for told in ask_after(lists, *[nth(k) for k in places])]
            triples = [(x, y, z) for x in places for y in places for z in places]
            told = ask_after(lists, *[median(*triple) for triple in triples])
            for triple, answer in zip(triples, told, strict=True):
                with self.subTest(lists=lists, triple=triple):
                    self.assertEqual(answer[0], 0)
                    self.assertIn(answer[1:], stable)
                    self.assertEqual(ask_after(lists, check(answer[1:]), blocks(answer[1:])), [[0, 0], [0, 0]])
                    self.assertEqual(answer[1:], Plain(lists).middle(*[stable[k - 1] for k in triple]))
                    fourth += answer[1:] not in [stable[k - 1] for k in triple]
            self.assertEqual(ask_after(lists, median(count + 1, 1, 1), median(1, count + 1, 1)), [[-7], [-7]])
        self.assertGreater(fourth, 10)

    def test_what_settles_is_stable(self):
        without_end = 0
        for lists in some_groups():
            with self.subTest(lists=lists):
                done, *row = ask_after(lists, settle(50, [0] * len(lists)))[0][1:]
                told = ask_after(lists, blocks(row), check(row), settle(50, row))
                if done < 50:
                    self.assertEqual(told, [[0, 0], [0, 0], [0, 0] + row])
                else:
                    without_end += 1
                    self.assertGreater(told[0][1], 0)
        self.assertGreater(without_end, 20)


class AgainstTheWordsTest(unittest.TestCase):
    def test_all_answers_about_some_groups(self):
        for lists in some_groups():
            with self.subTest(lists=lists):
                plain = Plain(lists)
                stable = plain.stable()
                guests = range(1, len(lists) + 1)
                told = ask_after(lists, PAIRS, RINGS, COUNT, *[partners(guest) for guest in guests])
                self.assertEqual(told[0], [0, 1] + stable[0] if stable else [0, 0])
                self.assertEqual(told[1], [0] + plain.first_rings())
                self.assertEqual(told[2], [0, len(plain.pairings()), len(stable)])
                self.assertEqual(told[3:], [[0] + plain.partners(guest) for guest in guests])
                told = ask_after(lists, *[nth(k) for k in range(1, len(stable) + 2)])
                self.assertEqual(told, [[0] + row for row in stable] + [[-7]])

    def test_check_and_prove_of_many_rows(self):
        source = random.Random(11)
        for lists in some_groups():
            plain = Plain(lists)
            guests = len(lists)
            pairings = plain.pairings()
            rows = [source.choice(pairings) for turn in range(4)]
            rows += [source.sample(range(1, guests + 1), guests) for turn in range(8)]
            rows += [[source.randint(0, min(7, guests + 1)) for guest in range(guests)] for turn in range(3)]
            rows += [[partner or guest for guest, partner in enumerate(row, start=1)] for row in rows[:4]]
            for row in rows:
                with self.subTest(lists=lists, row=row):
                    self.assertEqual(ask_after(lists, check(row), prove(row)),
                                     [[0] + plain.judge_pairing(row), [0] + plain.judge_rings(row)])

    def test_blocks_settle_and_prefer(self):
        source = random.Random(19)
        for lists in some_groups():
            plain = Plain(lists)
            for row in [source.choice(plain.pairings()) for turn in range(3)]:
                times = source.choice([0, 1, 2, 5, 50])
                with self.subTest(lists=lists, row=row, times=times):
                    self.assertEqual(ask_after(lists, blocks(row), settle(times, row)),
                                     [[0] + plain.blocks(row), [0] + plain.settle(times, row)])
            guest = source.choice(plain.all)
            others = [0] + [other for other in plain.all if plain.share(guest, other)]
            for a in others:
                for b in others:
                    with self.subTest(lists=lists, guest=guest, a=a, b=b):
                        self.assertEqual(ask_after(lists, prefer(guest, a, b)), [[0, plain.prefer(guest, a, b)]])


class LinesTest(unittest.TestCase):
    """Lines of all kinds of calls, each drawn with an eye on what the second program has at that place."""

    KINDS = [0] + [1] * 8 + [2, 3, 4, 4, 5, 5, 6, 7, 8, 9, 9, 10, 10, 11, 11, 12, 12, 12, 13, 13, 14, 14, 15, 15, 15, 16]

    def some_number(self, source, least, most):
        return source.choice([source.randint(least, most)] * 20 + [0, 7, 8, -1, BIG, -BIG, 1000, 1001])

    def some_numbers(self, source, kind, guests):
        if kind in (8, 9):
            return [self.some_number(source, 1, 2) for place in range(1 if kind == 8 else 3)]
        if kind == 11:
            return [source.choice([0, 1, 2, 3, 10, 49, 50, 50, 51, -1])]
        if kind == 12:
            return [self.some_number(source, least, guests) for least in (1, 0, 0)]
        if kind == 15:
            return [self.some_number(source, 1, guests) for place in range(2)]
        return [self.some_number(source, 1, guests)] if kind in (0, 1, 6) else []

    def some_row(self, source, kind, told, guests, other):
        everybody = range(1, guests + 1)
        if kind == 1:
            row = [guest for guest in everybody if guest != told[0]]
            source.shuffle(row)
            return row[:source.choice([0, 1, 2, 7, 7, 7, 7, 7])]
        if kind != 5 and other.lists is not None and source.random() < 0.7:
            return list(source.choice(other.plain.pairings()))
        if source.random() < 0.6:
            return source.sample(everybody, guests)
        return [source.randint(0, guests) for guest in everybody]

    def some_call(self, source, guests, other):
        kind = source.choice(self.KINDS)
        told = self.some_numbers(source, kind, guests)
        row = []
        if kind in WITH_ROW:
            row = self.some_row(source, kind, told, guests, other)
            if source.random() < 0.12:
                row = row + [source.choice([0, 1, 2, 3, 7, 8, -1, BIG])]
        # Two who would rather share seldom come up by chance.
        if kind == 15 and other.booked is not None and source.random() < 0.5:
            pairs = other.plain.blocks(other.booked)[1:] if other.plain.is_pairing(other.booked) else []
            if pairs:
                place = source.randrange(0, len(pairs), 2)
                told = source.sample(pairs[place:place + 2], 2)
        return kind, told, row

    def some_line(self, source):
        """The calls of a line as they are written, and what the second program answers to each."""
        other = PlainGroup()
        guests = source.choice([1, 2, 3, 3, 4, 4, 5, 5, 6])
        opened_at = source.randint(0, 3)
        written = []
        wanted = []
        for place in range(90):
            kind, told, row = (0, [guests], []) if place == opened_at else self.some_call(source, guests, other)
            # Those that come ahead of it don't open the group with another number of guests.
            if kind == 0 and place < opened_at:
                told = [8]
            wanted.append(other.answer(kind, told, row))
            written.append([kind] + told + ([len(row)] + row if kind in WITH_ROW else []))
        return written, wanted

    def test_lines_of_all_kinds_of_calls(self):
        source = random.Random(13)
        seen = {}
        for turn in range(120):
            written, wanted = self.some_line(source)
            for call, answer in zip(written, wanted):
                seen.setdefault(call[0], set()).add(min(answer[0], 0))
            with self.subTest(turn=turn):
                self.assertEqual(ask(written), wanted)
        # Each call was accepted, and refused in each way that is told with it.
        self.assertEqual(seen, {
            0: {0, -1, -3}, 1: {0, -1, -2, -4, -5}, 2: {0, -2}, 3: {0, -2}, 4: {0, -1, -2, -6}, 5: {0, -1, -2, -6},
            6: {0, -1, -2, -4}, 7: {0, -2}, 8: {0, -1, -2, -7}, 9: {0, -1, -2, -7}, 10: {0, -1, -2, -6, -8},
            11: {0, -1, -2, -6, -8}, 12: {0, -1, -2, -4, -9}, 13: {0, -1, -2, -6, -8}, 14: {0, -2, -10},
            15: {0, -1, -2, -4, -8, -9, -10}, 16: {0, -2},
        })

    def test_lists_given_anew_again_and_again(self):
        source = random.Random(17)
        lists = some_lists(source, 5, 1)
        calls = [open_group(5)] + [give_list(guest, others) for guest, others in enumerate(lists, start=1)]
        wanted = [[0]] * 6
        for turn in range(60):
            guest = source.randint(1, 5)
            lists[guest - 1] = some_lists(source, 5, 0.8)[guest - 1]
            plain = Plain(lists)
            calls += [give_list(guest, lists[guest - 1]), COUNT, partners(guest)]
            wanted += [[0], [0, len(plain.pairings()), len(plain.stable())], [0] + plain.partners(guest)]
        self.assertEqual(ask(calls), wanted)


if __name__ == "__main__":
    unittest.main()
