"""How calls stand in the list that is handed in, and answers in the one that is given back."""

import unittest

from roomsharers.group import answers
from tests.helper import (BIG, COUNT, LISTS, PAIRS, RINGS, ROOMS, SAME_ORDER, ask, ask_after, blocks, book, check, circle,
                          give_list, group, join, line, median, nth, partners, prefer, prove, settle, split_answers)

# For each call the least and the greatest of its whole numbers, and how long its row may be.
LAYOUTS = {
    0: ([(1, 7)], None),
    1: ([(1, 7)], 6),
    2: ([], None),
    3: ([], None),
    4: ([], 7),
    5: ([], 7),
    6: ([(1, 7)], None),
    7: ([], None),
    8: ([(1, 1000)], None),
    9: ([(1, 1000)] * 3, None),
    10: ([], 7),
    11: ([(0, 50)], 7),
    12: ([(1, 7), (0, 7), (0, 7)], None),
    13: ([], 7),
    14: ([], None),
    15: ([(1, 7)] * 2, None),
    16: ([], None),
}


def with_row(call, longest, row):
    return call if longest is None else call + [len(row)] + row


def calls_at_the_edges():
    """Calls at the edges of the ranges told."""
    for number, (ranges, longest) in LAYOUTS.items():
        yield with_row([number] + [least for least, most in ranges], longest, [])
        yield with_row([number] + [most for least, most in ranges], longest, [0, 7, 0, 7, 0, 7, 0][:longest])


def calls_outside():
    """The same with just one number, or the row, outside of them."""
    for number, (ranges, longest) in LAYOUTS.items():
        fitting = [least for least, most in ranges]
        for place, (least, most) in enumerate(ranges):
            for wrong in (least - 1, most + 1, BIG, -BIG):
                yield with_row([number] + fitting[:place] + [wrong] + fitting[place + 1:], longest, [])
        if longest is not None:
            for row in ([8], [-1], [1, BIG], [-BIG], [0] * (longest + 1), [3] * 100, [BIG] * 100):
                yield with_row([number] + fitting, longest, row)


class LayoutTest(unittest.TestCase):
    def test_a_whole_line_number_by_number(self):
        calls = [0, 2, 1, 1, 1, 2, 1, 2, 1, 1, 2, 3, 4, 2, 2, 1, 5, 2, 2, 1, 6, 1, 7, 8, 1, 8, 2]
        told = [1, 0, 1, 0, 1, 0, 4, 0, 1, 2, 1, 5, 0, 1, 2, 1, 0, 2, 0, 0, 3, 0, 0, 0, 3, 0, 1, 2, 3, 0, 2, 1,
                3, 0, 2, 1, 1, -7]
        self.assertEqual(answers(calls), told)

    def test_another_whole_line_number_by_number(self):
        calls = [0, 2, 1, 1, 1, 2, 1, 2, 1, 1, 9, 1, 1, 1, 10, 2, 0, 0, 11, 50, 2, 0, 0, 12, 1, 2, 0, 14, 13, 2, 0, 0,
                 14, 15, 2, 1, 14, 16]
        told = [1, 0, 1, 0, 1, 0, 3, 0, 2, 1, 4, 0, 1, 1, 2, 4, 0, 1, 2, 1, 2, 0, 1, 1, -10, 2, 0, 2,
                7, 0, 0, 0, 1, 1, 1, 2, 3, 0, 2, 1, 5, 0, 2, 1, 1, 0, 6, 0, 2, 1, 2, 1, 1]
        self.assertEqual(answers(calls), told)

    def test_lists_before_and_after_open(self):
        self.assertEqual(answers([16, 16, 0, 2, 16]), [1, -2, 1, -2, 1, 0, 4, 0, 2, 0, 0])

    def test_a_refusal_is_one_number_alone(self):
        self.assertEqual(answers([2]), [1, -2])
        self.assertEqual(answers([0, BIG, 0, -BIG, 0, 1]), [1, -1, 1, -1, 1, 0])

    def test_empty_and_long_rows_are_read_past(self):
        wide = list(range(100))
        calls = [check([]), check(wide), prove([]), prove(wide), give_list(1, wide), blocks([]), blocks(wide),
                 settle(50, []), settle(50, wide), book([]), book(wide), PAIRS]
        told = ask_after(circle(4), *calls)
        self.assertEqual(told, [[-6], [-1], [-6], [-1], [-1], [-6], [-1], [-6], [-1], [-6], [-1], [0, 1, 2, 1, 4, 3]])

    def test_every_call_ends_where_the_next_begins(self):
        for call in list(calls_at_the_edges()) + list(calls_outside()):
            if call != give_list(1, []):
                with self.subTest(call=call):
                    told = ask_after(circle(4), PAIRS, call, PAIRS, call, call, COUNT)
                    self.assertEqual([told[0], told[2], told[5]], [[0, 1, 2, 1, 4, 3], [0, 1, 2, 1, 4, 3], [0, 7, 2]])

    def test_every_call_is_refused_by_range_and_then_if_no_group_is_open(self):
        for call in calls_at_the_edges():
            with self.subTest(call=call):
                self.assertEqual(ask([call]), [[0]] if call[0] == 0 else [[-2]])
        for call in calls_outside():
            with self.subTest(call=call):
                self.assertEqual(ask([call]), [[-1]])
                self.assertEqual(ask_after(circle(4), call), [[-1]])


class NothingKeptTest(unittest.TestCase):
    def setUp(self):
        asked = [PAIRS, RINGS, COUNT, check([2, 1, 4, 3]), prove([2, 3, 4, 1]), partners(2), nth(2), check([9] * 100),
                 ROOMS, median(1, 2, 2), blocks([2, 1, 0, 0]), settle(50, [0, 0, 0, 0]), prefer(1, 2, 4),
                 book([2, 1, 0, 0]), ROOMS, join(2, 3), ROOMS, LISTS, give_list(2, [4, 3, 1]), PAIRS, RINGS, ROOMS,
                 join(4, 1), LISTS]
        self.line = line(group(*circle(4)) + asked)

    def test_what_is_handed_in_is_the_same_afterwards(self):
        kept = tuple(self.line)
        answers(self.line)
        self.assertEqual(tuple(self.line), kept)

    def test_a_second_time_is_like_the_first(self):
        first = answers(self.line)
        answers(line(group(*circle(7)) + [PAIRS, RINGS, book([2, 1, 0, 0, 0, 0, 0]), ROOMS]))
        self.assertEqual(answers(self.line), first)
        self.assertEqual(answers(list(self.line)), first)
        self.assertEqual(answers([2]), [1, -2])
        self.assertEqual(answers([0, 1, 14, 16]), [1, 0, 1, -10, 3, 0, 1, 0])

    def test_what_is_given_back_is_nobody_elses(self):
        first = answers(self.line)
        kept = list(first)
        first.clear()
        self.assertEqual(answers(self.line), kept)

    def test_whole_numbers_in_a_list(self):
        told = answers(self.line)
        self.assertIs(type(told), list)
        self.assertEqual({type(number) for number in told}, {int})


class LongLineTest(unittest.TestCase):
    def test_four_hundred_calls_with_seven_guests(self):
        best = [[other for other in range(7, 0, -1) if other != guest] for guest in range(1, 8)]
        rows = [PAIRS, COUNT, nth(1), partners(3), check([0] * 7), prove([1, 2, 3, 4, 5, 6, 7])]
        asked = [RINGS] * 40
        while len(asked) < 392:
            asked.append(rows[len(asked) % 6])
        calls = group(*best) + asked
        self.assertEqual(len(calls), 400)
        told = split_answers(answers(line(calls)))
        self.assertEqual(told[:8], [[0]] * 8)
        self.assertEqual(told[8:48], [[0, 1, 1, 3, 2, 5, 4, 7, 6, 0]] * 40)
        wanted = {
            tuple(PAIRS): [0, 1, 0, 3, 2, 5, 4, 7, 6],
            tuple(COUNT): [0, 232, 1],
            tuple(nth(1)): [0, 0, 3, 2, 5, 4, 7, 6],
            tuple(partners(3)): [0, 1, 2],
            tuple(check([0] * 7)): [0, 2, 1, 2],
            tuple(prove([1, 2, 3, 4, 5, 6, 7])): [0, 3, 1, 2],
        }
        for call, answer in zip(asked[40:], told[48:], strict=True):
            self.assertEqual(answer, wanted[tuple(call)])

    def test_four_hundred_calls_that_book_and_join(self):
        row = [7, 4, 5, 2, 3, 0, 1]
        asked = [book(row), ROOMS, join(2, 1), join(3, 4), join(6, 5), ROOMS, LISTS, median(1, 1, 1), settle(50, row),
                 settle(0, row), blocks([0] * 7), prefer(7, 0, 6), join(6, 7), median(1, 2, 1)]
        pairs = [guest for one in range(1, 8) for other in range(one + 1, 8) for guest in (one, other)]
        # Who would rather share than as row tells: 1 with all before 7, and 2 with 3.
        rather = [1, 2, 1, 3, 1, 4, 1, 5, 1, 6, 2, 3]
        best = [2, 1, 4, 3, 6, 5, 0]
        wanted = [[0, 1], [0] + row + [1, 6] + rather, [0, 2, 1, 5, 0, 3, 0, 0], [0, 2, 1, 4, 3, 0, 0, 0], [0] + best,
                  [0] + best + [1, 0], [0, 7] + [number for others in SAME_ORDER for number in [6] + others],
                  [0] + best, [0, 3] + best, [0, 0] + row, [0, 21] + pairs, [0, 2], [-9], [-7]]
        calls = group(*SAME_ORDER) + asked * 28
        self.assertEqual(len(calls), 400)
        self.assertEqual(ask(calls), [[0]] * 8 + wanted * 28)

    def test_four_hundred_of_the_longest_calls(self):
        told = ask([check([BIG] * 100)] * 160 + [[2]] * 240)
        self.assertEqual(told, [[-1]] * 160 + [[-2]] * 240)


if __name__ == "__main__":
    unittest.main()
