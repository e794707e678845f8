"""blocks and settle: the pairs who would rather share, and what comes if they go together."""

import unittest

from tests.helper import (BIG, FOUR_STABLE, LISTS, NO_PAIRINGS, PAIRS, ROOMS, SAME_ORDER, THREE_STABLE, ask, ask_after,
                          blocks, book, circle, give_list, open_group, settle)

ALONE = [0, 0, 0, 0]
# 3 and 4, who would have to share, never come to be the first two who would rather.
ROUND_PAST_A_STABLE_ONE = [[2, 3, 4], [3, 1], [4, 1, 2], [2, 3]]


class BlocksTest(unittest.TestCase):
    def test_no_pair(self):
        self.assertEqual(ask_after(circle(4), blocks([2, 1, 4, 3]), blocks([4, 3, 2, 1])), [[0, 0], [0, 0]])
        self.assertEqual(ask_after(SAME_ORDER, blocks([2, 1, 4, 3, 6, 5, 0])), [[0, 0]])
        self.assertEqual(ask([open_group(1), blocks([0])])[1], [0, 0])
        self.assertEqual(ask([open_group(7), blocks([0] * 7)])[1], [0, 0])

    def test_no_pair_in_each_stable_pairing(self):
        self.assertEqual(ask_after(THREE_STABLE, blocks([4, 5, 6, 1, 2, 3]), blocks([6, 4, 5, 2, 3, 1])),
                         [[0, 0], [0, 0]])
        self.assertEqual(ask_after(FOUR_STABLE, blocks([5, 3, 2, 6, 1, 4])), [[0, 0]])

    def test_one_pair(self):
        told = ask_after(circle(3), blocks([2, 1, 0]), blocks([0, 3, 2]), blocks([3, 0, 1]))
        self.assertEqual(told, [[0, 1, 2, 3], [0, 1, 1, 3], [0, 1, 1, 2]])

    def test_several_pairs_in_order(self):
        self.assertEqual(ask_after(circle(4), blocks(ALONE)), [[0, 4, 1, 2, 1, 4, 2, 3, 3, 4]])
        self.assertEqual(ask_after(circle(4), blocks([2, 1, 0, 0])), [[0, 2, 2, 3, 3, 4]])

    def test_all_pairs_of_seven(self):
        pairs = [guest for one in range(1, 8) for other in range(one + 1, 8) for guest in (one, other)]
        self.assertEqual(ask_after(SAME_ORDER, blocks([0] * 7)), [[0, 21] + pairs])

    def test_both_must_like_it_better(self):
        # 3 would go to 1 and to 2, but those two are content.
        self.assertEqual(ask_after([[2, 3], [1, 3], [1, 2]], blocks([2, 1, 0])), [[0, 0]])

    def test_one_sided_liking_does_not_count(self):
        self.assertEqual(ask_after([[3, 2], [1], [2]], blocks([0, 0, 0])), [[0, 1, 1, 2]])

    def test_by_the_lists_as_they_are_now(self):
        told = ask_after(circle(4), give_list(1, [4]), blocks(ALONE), blocks([2, 1, 0, 0]))
        self.assertEqual(told, [[0], [0, 3, 1, 4, 2, 3, 3, 4], [-8]])


class SettleTest(unittest.TestCase):
    def test_it_ends_by_itself_or_by_times(self):
        wanted = [[0, 0, 0, 0, 0, 0], [0, 1, 2, 1, 0, 0], [0, 2, 0, 3, 2, 0], [0, 3, 4, 3, 2, 1], [0, 3, 4, 3, 2, 1]]
        self.assertEqual(ask_after(circle(4), *[settle(times, ALONE) for times in range(5)]), wanted)
        self.assertEqual(ask_after(circle(4), settle(50, ALONE)), [[0, 3, 4, 3, 2, 1]])

    def test_a_stable_one_stays(self):
        for times in (0, 1, 50):
            with self.subTest(times=times):
                told = ask_after(circle(4), settle(times, [2, 1, 4, 3]), settle(times, [4, 3, 2, 1]))
                self.assertEqual(told, [[0, 0, 2, 1, 4, 3], [0, 0, 4, 3, 2, 1]])
                self.assertEqual(ask([open_group(1), settle(times, [0])])[1], [0, 0, 0])
                self.assertEqual(ask([open_group(7), settle(times, [0] * 7)])[1], [0] * 9)

    def test_without_end_if_none_is_stable(self):
        # Once 1 and 2 have gone together, every third time is the same again.
        round_and_round = [[2, 1, 0], [0, 3, 2], [3, 0, 1]]
        for times in range(1, 51):
            with self.subTest(times=times):
                told = ask_after(circle(3), settle(times, [0, 0, 0]))
                self.assertEqual(told, [[0, times] + round_and_round[(times - 1) % 3]])

    def test_without_end_though_one_is_stable(self):
        told = ask_after(ROUND_PAST_A_STABLE_ONE, PAIRS, settle(3, ALONE), settle(4, ALONE), settle(49, ALONE),
                         settle(50, ALONE))
        self.assertEqual(told, [[0, 1, 2, 1, 4, 3], [0, 3, 3, 0, 1, 0], [0, 4, 2, 1, 0, 0], [0, 49, 2, 1, 0, 0],
                                [0, 50, 0, 3, 2, 0]])

    def test_both_who_are_left_are_alone_and_all_others_stay(self):
        told = ask_after(SAME_ORDER, settle(1, [7, 4, 5, 2, 3, 0, 1]), settle(2, [7, 4, 5, 2, 3, 0, 1]),
                         settle(50, [7, 4, 5, 2, 3, 0, 1]))
        self.assertEqual(told, [[0, 1, 2, 1, 5, 0, 3, 0, 0], [0, 2, 2, 1, 4, 3, 0, 0, 0], [0, 3, 2, 1, 4, 3, 6, 5, 0]])

    def test_seven_from_alone(self):
        told = ask_after(SAME_ORDER, settle(0, [0] * 7), settle(2, [0] * 7), settle(50, [0] * 7))
        self.assertEqual(told, [[0] * 9, [0, 2, 2, 1, 4, 3, 0, 0, 0], [0, 3, 2, 1, 4, 3, 6, 5, 0]])

    def test_nothing_is_booked_by_it(self):
        told = ask_after(circle(4), settle(50, ALONE), ROOMS, book([2, 1, 4, 3]), settle(50, ALONE), ROOMS)
        self.assertEqual(told, [[0, 3, 4, 3, 2, 1], [-10], [0, 0], [0, 3, 4, 3, 2, 1], [0, 2, 1, 4, 3, 1, 0]])

    def test_the_lists_stay(self):
        told = ask_after(circle(3), LISTS, settle(50, [0, 0, 0]), LISTS)
        self.assertEqual(told[0], told[2])

    def test_by_the_lists_as_they_are_now(self):
        told = ask_after(circle(3), give_list(3, [2]), settle(50, [0, 0, 0]))
        self.assertEqual(told, [[0], [0, 2, 0, 3, 2]])


class RefusedTest(unittest.TestCase):
    def test_not_as_many_as_there_are_guests(self):
        for guests in range(1, 8):
            for length in range(8):
                if length != guests:
                    with self.subTest(guests=guests, length=length):
                        told = ask([open_group(guests), blocks([0] * length), settle(0, [0] * length),
                                    settle(50, [0] * length)])
                        self.assertEqual(told[1:], [[-6]] * 3)

    def test_no_pairing(self):
        for row in NO_PAIRINGS:
            with self.subTest(row=row):
                self.assertEqual(ask_after(circle(4), blocks(row), settle(0, row), settle(50, row)), [[-8]] * 3)

    def test_one_sided_is_no_pairing(self):
        for lists in ([[2], []], [[], [1]]):
            with self.subTest(lists=lists):
                self.assertEqual(ask_after(lists, blocks([2, 1]), settle(0, [2, 1])), [[-8]] * 2)

    def test_the_length_comes_ahead_of_no_pairing(self):
        told = ask_after(circle(4), blocks([3, 0, 1]), blocks([7]), settle(1, [3, 0, 1]), settle(1, [7] * 7))
        self.assertEqual(told, [[-6]] * 4)

    def test_out_of_range_comes_first(self):
        for row in ([8], [0, 0, 0, -1], [0, 0, 8, 0], [BIG], [-BIG, 0, 0, 0], [0] * 8, [1] * 100, [BIG] * 100):
            with self.subTest(row=row):
                self.assertEqual(ask_after(circle(4), blocks(row), settle(0, row), settle(50, row)), [[-1]] * 3)
                self.assertEqual(ask([blocks(row), settle(0, row), settle(50, row)]), [[-1]] * 3)
        for times in (-BIG, -1, 51, BIG):
            for row in (ALONE, [], [3, 0, 1, 0], [8]):
                with self.subTest(times=times, row=row):
                    self.assertEqual(ask_after(circle(4), settle(times, row)), [[-1]])
                    self.assertEqual(ask([settle(times, row)]), [[-1]])

    def test_no_group_is_open(self):
        told = ask([blocks([]), blocks([0] * 7), blocks([1]), settle(0, []), settle(50, [0] * 7), settle(1, [1])])
        self.assertEqual(told, [[-2]] * 6)


if __name__ == "__main__":
    unittest.main()
