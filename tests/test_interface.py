"""How calls stand in the list that is handed in, and answers in the one that is given back."""

import unittest

from roomsharers.group import answers
from tests.helper import (BIG, COUNT, PAIRS, RINGS, ask, ask_after, check, circle, give_list, group, line, nth,
                          partners, prove, split_answers)

# The calls of the next stage: the least and the greatest of their whole numbers, and how long their row may be.
NEXT_STAGE = {
    9: ([(1, 1000)] * 3, None),
    10: ([], 7),
    11: ([(0, 50)], 7),
    12: ([(1, 7), (0, 7), (0, 7)], None),
    13: ([], 7),
    14: ([], None),
    15: ([(1, 7)] * 2, None),
    16: ([], None),
}


def with_row(call, longest, row):
    return call if longest is None else call + [len(row)] + row


def later_calls():
    """Calls of the next stage at the edges of the ranges told."""
    for number, (ranges, longest) in NEXT_STAGE.items():
        yield with_row([number] + [least for least, most in ranges], longest, [])
        yield with_row([number] + [most for least, most in ranges], longest, [0, 7, 0, 7, 0, 7, 0])


def later_calls_outside():
    """The same with just one number, or the row, outside of them."""
    for number, (ranges, longest) in NEXT_STAGE.items():
        fitting = [least for least, most in ranges]
        for place, (least, most) in enumerate(ranges):
            for wrong in (least - 1, most + 1, BIG, -BIG):
                yield with_row([number] + fitting[:place] + [wrong] + fitting[place + 1:], longest, [])
        if longest is not None:
            for row in ([8], [-1], [1, BIG], [-BIG], [0] * 8, [3] * 100):
                yield with_row([number] + fitting, longest, row)


class LayoutTest(unittest.TestCase):
    def test_a_whole_line_number_by_number(self):
        calls = [0, 2, 1, 1, 1, 2, 1, 2, 1, 1, 2, 3, 4, 2, 2, 1, 5, 2, 2, 1, 6, 1, 7, 8, 1, 8, 2]
        told = [1, 0, 1, 0, 1, 0, 4, 0, 1, 2, 1, 5, 0, 1, 2, 1, 0, 2, 0, 0, 3, 0, 0, 0, 3, 0, 1, 2, 3, 0, 2, 1,
                3, 0, 2, 1, 1, -7]
        self.assertEqual(answers(calls), told)

    def test_a_refusal_is_one_number_alone(self):
        self.assertEqual(answers([2]), [1, -2])
        self.assertEqual(answers([0, BIG, 0, -BIG, 0, 1]), [1, -1, 1, -1, 1, 0])

    def test_empty_and_long_rows_are_read_past(self):
        wide = list(range(100))
        calls = [check([]), check(wide), prove([]), prove(wide), give_list(1, wide), PAIRS]
        told = ask_after(circle(4), *calls)
        self.assertEqual(told, [[-6], [-1], [-6], [-1], [-1], [0, 1, 2, 1, 4, 3]])

    def test_calls_of_the_next_stage_are_read_past(self):
        for call in list(later_calls()) + list(later_calls_outside()):
            with self.subTest(call=call):
                told = ask_after(circle(4), PAIRS, call, PAIRS, call, call, COUNT)
                self.assertEqual([told[0], told[2], told[5]], [[0, 1, 2, 1, 4, 3], [0, 1, 2, 1, 4, 3], [0, 7, 2]])

    def test_every_call_is_refused_by_range_and_then_if_no_group_is_open(self):
        for call in later_calls():
            with self.subTest(call=call):
                self.assertEqual(ask([call]), [[-2]])
        for call in later_calls_outside():
            with self.subTest(call=call):
                self.assertEqual(ask([call]), [[-1]])
                self.assertEqual(ask_after(circle(4), call), [[-1]])


class NothingKeptTest(unittest.TestCase):
    def setUp(self):
        asked = [PAIRS, RINGS, COUNT, check([2, 1, 4, 3]), prove([2, 3, 4, 1]), partners(2), nth(2), check([9] * 100),
                 give_list(2, [4, 3, 1]), PAIRS, RINGS]
        self.line = line(group(*circle(4)) + asked)

    def test_what_is_handed_in_is_the_same_afterwards(self):
        kept = tuple(self.line)
        answers(self.line)
        self.assertEqual(tuple(self.line), kept)

    def test_a_second_time_is_like_the_first(self):
        first = answers(self.line)
        answers(line(group(*circle(7)) + [PAIRS, RINGS]))
        self.assertEqual(answers(self.line), first)
        self.assertEqual(answers([2]), [1, -2])

    def test_what_is_given_back_is_nobody_elses(self):
        first = answers(self.line)
        kept = list(first)
        first.clear()
        self.assertEqual(answers(self.line), kept)

    def test_whole_numbers_in_a_list(self):
        told = answers(self.line)
        self.assertIs(type(told), list)
        self.assertEqual({type(number) for number in told}, {int})


class LongLineTest(unittest.TestCase):
    def test_four_hundred_calls_with_seven_guests(self):
        best = [[other for other in range(7, 0, -1) if other != guest] for guest in range(1, 8)]
        rows = [PAIRS, COUNT, nth(1), partners(3), check([0] * 7), prove([1, 2, 3, 4, 5, 6, 7])]
        asked = [RINGS] * 40
        while len(asked) < 392:
            asked.append(rows[len(asked) % 6])
        calls = group(*best) + asked
        self.assertEqual(len(calls), 400)
        told = split_answers(answers(line(calls)))
        self.assertEqual(told[:8], [[0]] * 8)
        self.assertEqual(told[8:48], [[0, 1, 1, 3, 2, 5, 4, 7, 6, 0]] * 40)
        wanted = {
            tuple(PAIRS): [0, 1, 0, 3, 2, 5, 4, 7, 6],
            tuple(COUNT): [0, 232, 1],
            tuple(nth(1)): [0, 0, 3, 2, 5, 4, 7, 6],
            tuple(partners(3)): [0, 1, 2],
            tuple(check([0] * 7)): [0, 2, 1, 2],
            tuple(prove([1, 2, 3, 4, 5, 6, 7])): [0, 3, 1, 2],
        }
        for call, answer in zip(asked[40:], told[48:], strict=True):
            self.assertEqual(answer, wanted[tuple(call)])

    def test_four_hundred_of_the_longest_calls(self):
        told = ask([check([BIG] * 100)] * 160 + [[2]] * 240)
        self.assertEqual(told, [[-1]] * 160 + [[-2]] * 240)


if __name__ == "__main__":
    unittest.main()
