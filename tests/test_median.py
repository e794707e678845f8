"""median: the middle of three stable pairings."""

import unittest
from itertools import permutations, product

from roomsharers.pairings import middle_pairing
from tests.helper import (BIG, COUNT, FOUR_STABLE, SAME_ORDER, THREE_STABLE, ask, ask_after, check, circle, give_list,
                          median, nth, open_group)

FIRST = [2, 1, 4, 3]
SECOND = [4, 3, 2, 1]


class MedianTest(unittest.TestCase):
    def test_three_that_differ_for_everybody(self):
        # For each of 1, 2 and 3 the second of the three is the second on their list, and so it is for 4, 5 and 6.
        for places in permutations((1, 2, 3)):
            with self.subTest(places=places):
                self.assertEqual(ask_after(THREE_STABLE, median(*places)), [[0, 5, 6, 4, 3, 1, 2]])

    def test_the_middle_goes_by_liking_and_not_by_the_order_of_rows(self):
        # 1 likes 5 best of all, so that the middle isn't the second row.
        lists = [[5, 6, 4], [6, 4, 5], [4, 5, 6], [1, 2, 3], [2, 3, 1], [3, 1, 2]]
        told = ask_after(lists, nth(1), nth(2), nth(3))
        self.assertEqual(told, [[0, 4, 5, 6, 1, 2, 3], [0, 5, 6, 4, 3, 1, 2], [0, 6, 4, 5, 2, 3, 1]])
        for places in permutations((1, 2, 3)):
            with self.subTest(places=places):
                self.assertEqual(ask_after(lists, median(*places)), [[0, 6, 4, 5, 2, 3, 1]])

    def test_the_middle_may_be_a_fourth(self):
        told = ask_after(FOUR_STABLE, COUNT, nth(1), nth(2), nth(3), nth(4))
        self.assertEqual(told, [[0, 76, 4], [0, 4, 5, 6, 1, 2, 3], [0, 5, 3, 2, 6, 1, 4], [0, 5, 4, 6, 2, 1, 3],
                                [0, 6, 4, 5, 2, 3, 1]])
        for places in permutations((1, 2, 4)):
            with self.subTest(places=places):
                self.assertEqual(ask_after(FOUR_STABLE, median(*places)), [[0, 5, 4, 6, 2, 1, 3]])

    def test_two_the_same(self):
        for places in product((1, 2), repeat=3):
            with self.subTest(places=places):
                told = ask_after(circle(4), median(*places))
                self.assertEqual(told, [[0] + (FIRST if places.count(1) > 1 else SECOND)])

    def test_two_the_same_beside_a_third_on_either_side(self):
        for same, third in permutations((1, 2, 3), 2):
            for places in permutations((same, same, third)):
                with self.subTest(places=places):
                    told = ask_after(THREE_STABLE, median(*places), nth(same))
                    self.assertEqual(told[0], told[1])

    def test_three_the_same(self):
        told = ask_after(THREE_STABLE, median(1, 1, 1), median(2, 2, 2), median(3, 3, 3), nth(1), nth(2), nth(3))
        self.assertEqual(told[:3], told[3:])
        self.assertEqual(ask_after(SAME_ORDER, median(1, 1, 1)), [[0, 2, 1, 4, 3, 6, 5, 0]])

    def test_guests_who_are_alone(self):
        lists = circle(4) + [[6], [5], []]
        told = ask_after(lists, median(1, 2, 2), median(1, 2, 1))
        self.assertEqual(told, [[0, 4, 3, 2, 1, 6, 5, 0], [0, 2, 1, 4, 3, 6, 5, 0]])
        self.assertEqual(ask([open_group(1), median(1, 1, 1)])[1], [0, 0])
        self.assertEqual(ask([open_group(7), median(1, 1, 1)])[1], [0] * 8)

    def test_being_alone_is_liked_least_of_all(self):
        # No three stable pairings show it: in all of them the same guests are alone.
        lists = [[], [2, 3], [1], [1]]
        for three in permutations([[2, 1, 0], [0, 0, 0], [3, 0, 1]]):
            with self.subTest(three=three):
                self.assertEqual(middle_pairing(lists, list(three)), [3, 0, 0])

    def test_the_middle_is_stable(self):
        for lists, count in ((THREE_STABLE, 3), (FOUR_STABLE, 4)):
            for places in product(range(1, count + 1), repeat=3):
                with self.subTest(lists=lists, places=places):
                    told = ask_after(lists, median(*places))[0]
                    self.assertEqual(ask_after(lists, check(told[1:])), [[0, 0]])

    def test_by_the_lists_as_they_are_now(self):
        told = ask_after(circle(4), median(2, 2, 1), give_list(2, [1, 3]), median(1, 1, 1), median(2, 2, 1))
        self.assertEqual(told, [[0] + SECOND, [0], [0] + FIRST, [-7]])


class RefusedTest(unittest.TestCase):
    def test_there_are_not_so_many(self):
        for place in range(3):
            for wrong in (3, 4, 1000):
                places = [1, 2, 1]
                places[place] = wrong
                with self.subTest(places=places):
                    self.assertEqual(ask_after(circle(4), median(*places)), [[-7]])

    def test_none_is_stable(self):
        for guests in (3, 5, 7):
            with self.subTest(guests=guests):
                self.assertEqual(ask_after(circle(guests), median(1, 1, 1), median(1000, 1000, 1000)), [[-7], [-7]])

    def test_out_of_range_comes_first(self):
        for place in range(3):
            for wrong in (-BIG, -1, 0, 1001, BIG):
                for fitting in (1, 2, 1000):
                    places = [fitting] * 3
                    places[place] = wrong
                    with self.subTest(places=places):
                        self.assertEqual(ask_after(circle(4), median(*places)), [[-1]])
                        self.assertEqual(ask([median(*places)]), [[-1]])

    def test_no_group_is_open(self):
        self.assertEqual(ask([median(1, 1, 1), median(1000, 1000, 1000)]), [[-2], [-2]])


if __name__ == "__main__":
    unittest.main()
