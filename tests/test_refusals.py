"""Every refusal of every call, which of two comes first, and that nothing has changed behind one."""

import unittest

from tests.helper import (BIG, COUNT, PAIRS, RINGS, ask, ask_after, check, circle, give_list, group, nth, open_group,
                          partners, prove)

OUTSIDE = (-BIG, -1, BIG)


class OutOfRangeTest(unittest.TestCase):
    def refused(self, call, number):
        """Refused so whether a group is open or not."""
        self.assertEqual(ask([call]), [[number]])
        self.assertEqual(ask_after(circle(4), call), [[number]])

    def test_guests(self):
        for number in OUTSIDE + (0, 8):
            with self.subTest(number=number):
                self.refused(open_group(number), -1)
                self.refused(give_list(number, []), -1)
                self.refused(partners(number), -1)

    def test_k(self):
        for number in OUTSIDE + (0, 1001):
            with self.subTest(number=number):
                self.refused(nth(number), -1)

    def test_numbers_of_a_list(self):
        for number in OUTSIDE + (8,):
            with self.subTest(number=number):
                self.refused(give_list(1, [number]), -1)
                self.refused(give_list(1, [2, 3, number]), -1)
                self.refused(check([0, 0, 0, number]), -1)
                self.refused(check([number]), -1)
                self.refused(prove([1, 2, 3, number]), -1)
                self.refused(prove([number]), -1)

    def test_lengths(self):
        for length in (7, 8, 100):
            with self.subTest(length=length):
                self.refused(give_list(1, [2] * length), -1)
        for length in (8, 100):
            with self.subTest(length=length):
                self.refused(check([0] * length), -1)
                self.refused(prove([1] * length), -1)
                self.refused(check([BIG] * length), -1)
                self.refused(prove([-BIG] * length), -1)

    def test_the_longest_that_are_taken(self):
        told = ask([open_group(7), give_list(1, [2, 3, 4, 5, 6, 7]), check([0] * 7), prove([1, 2, 3, 4, 5, 6, 7])])
        self.assertEqual(told, [[0], [0], [0, 0], [0, 0, 0]])


class NotOpenTest(unittest.TestCase):
    def test_every_call_but_open(self):
        # Each of them would be refused otherwise, too, or has nothing against it.
        calls = [give_list(1, []), give_list(7, [7, 7]), give_list(1, [0, 0, 0, 0, 0, 0]), PAIRS, RINGS, check([]),
                 check([0] * 7), prove([]), prove([1]), partners(1), partners(7), COUNT, nth(1), nth(1000)]
        self.assertEqual(ask(calls), [[-2]] * len(calls))

    def test_a_refused_open_opens_nothing(self):
        self.assertEqual(ask([open_group(0), COUNT, open_group(8), COUNT]), [[-1], [-2], [-1], [-2]])

    def test_calls_of_a_group_that_is_not_open_change_nothing(self):
        self.assertEqual(ask([give_list(1, [2]), open_group(2), give_list(2, [1]), COUNT]), [[-2], [0], [0], [0, 1, 1]])


class OpenTest(unittest.TestCase):
    def test_every_number_of_guests(self):
        for guests in range(1, 8):
            with self.subTest(guests=guests):
                self.assertEqual(ask([open_group(guests), PAIRS]), [[0], [0, 1] + [0] * guests])

    def test_open_already(self):
        self.assertEqual(ask([open_group(2), open_group(2), open_group(7), open_group(8)]), [[0], [-3], [-3], [-1]])

    def test_the_group_stays_as_it_was(self):
        told = ask(group([2], [1]) + [open_group(5), PAIRS])
        self.assertEqual(told[3:], [[-3], [0, 1, 2, 1]])


class ListTest(unittest.TestCase):
    def test_no_such_guest(self):
        self.assertEqual(ask([open_group(3), give_list(3, []), give_list(4, []), give_list(7, [])]),
                         [[0], [0], [-4], [-4]])

    def test_no_such_guest_comes_ahead_of_a_wrong_list(self):
        self.assertEqual(ask([open_group(3), give_list(4, [4]), give_list(4, [0]), give_list(4, [1, 1])])[1:],
                         [[-4]] * 3)

    def test_out_of_range_comes_ahead_of_no_such_guest(self):
        self.assertEqual(ask([open_group(3), give_list(4, [8]), give_list(4, [1] * 7)])[1:], [[-1]] * 2)

    def test_wrong_lists(self):
        for others in ([0], [4], [7], [2, 0], [1], [2, 1], [2, 2], [2, 3, 2], [3, 2, 2], [2, 3, 4], [2, 3, 1, 2, 3, 1]):
            with self.subTest(others=others):
                self.assertEqual(ask([open_group(3), give_list(1, others)])[1], [-5])

    def test_the_old_list_stays(self):
        for refused in (give_list(1, [3, 3]), give_list(1, [3, 1]), give_list(1, [3, 0]), give_list(1, [3, 4]),
                        give_list(1, [3, 8]), give_list(4, [1])):
            with self.subTest(refused=refused):
                told = ask_after([[2], [1], [1]], refused, PAIRS, COUNT)
                self.assertLess(told[0][0], 0)
                self.assertEqual(told[1:], [[0, 1, 2, 1, 0], [0, 2, 1]])

    def test_lists_of_none_and_of_six(self):
        lists = [[2, 3, 4, 5, 6, 7]] + [[1]] * 6
        told = ask_after(lists, PAIRS, COUNT, give_list(1, []), PAIRS, COUNT)
        self.assertEqual(told, [[0, 1, 2, 1, 0, 0, 0, 0, 0], [0, 7, 1], [0], [0, 1] + [0] * 7, [0, 1, 1]])


class RowTest(unittest.TestCase):
    def test_not_as_many_as_there_are_guests(self):
        for guests in range(1, 8):
            for length in range(8):
                if length != guests:
                    with self.subTest(guests=guests, length=length):
                        told = ask([open_group(guests), check([0] * length), prove(range(1, length + 1))])
                        self.assertEqual(told[1:], [[-6], [-6]])

    def test_out_of_range_comes_first(self):
        told = ask([open_group(3), check([0, 8]), check([0] * 8), prove([1, -1]), prove([1] * 8)])
        self.assertEqual(told[1:], [[-1]] * 4)

    def test_the_length_comes_ahead_of_what_the_row_says(self):
        told = ask([open_group(3), check([7, 7]), prove([7, 7])])
        self.assertEqual(told[1:], [[-6]] * 2)


class PartnersAndNthTest(unittest.TestCase):
    def test_no_such_guest(self):
        self.assertEqual(ask([open_group(3), partners(3), partners(4), partners(7), partners(8)])[1:],
                         [[0, 1, 0], [-4], [-4], [-1]])

    def test_there_are_not_so_many(self):
        self.assertEqual(ask([open_group(3), nth(1), nth(2), nth(1000), nth(1001)])[1:],
                         [[0, 0, 0, 0], [-7], [-7], [-1]])


class NothingChangesTest(unittest.TestCase):
    def test_refused_calls_may_stand_anywhere(self):
        refused = [open_group(3), open_group(BIG), give_list(5, [1]), give_list(1, [1]), give_list(1, [9]), check([0]),
                   prove([0] * 9), partners(5), partners(0), nth(3), nth(0)]
        asked = [PAIRS, RINGS, COUNT, check([2, 1, 4, 3]), prove([2, 3, 4, 1]), partners(2), nth(2)]
        plain = ask_after(circle(4), *asked)
        for call in refused:
            with self.subTest(call=call):
                told = ask_after(circle(4), call, *asked)
                self.assertEqual(len(told[0]), 1)
                self.assertLess(told[0][0], 0)
                self.assertEqual(told[1:], plain)


if __name__ == "__main__":
    unittest.main()
