"""rings and prove on ordinary groups and at the edges."""

import unittest

from tests.helper import PAIRS, RINGS, ask, ask_after, circle, give_list, open_group, prove

THREE = [[2, 3], [3, 1], [1, 2]]
# The ring 1, 3, 5, 2, 4, 6 comes, as a row, ahead of both stable pairings.
SIX = [[3, 6], [4, 5], [5, 1], [6, 2], [2, 3], [1, 4]]


class RingsTest(unittest.TestCase):
    def test_alone(self):
        self.assertEqual(ask([open_group(1), RINGS])[1], [0, 1, 1, 0])
        self.assertEqual(ask([open_group(7), RINGS])[1], [0, 1, 1, 2, 3, 4, 5, 6, 7, 0])

    def test_one_sided_lists(self):
        self.assertEqual(ask_after([[2, 3], [3], []], RINGS), [[0, 1, 1, 2, 3, 0]])

    def test_a_stable_pairing_is_rings_without_odd_guests(self):
        self.assertEqual(ask_after([[2], [1]], RINGS), [[0, 1, 2, 1, 0]])
        self.assertEqual(ask_after([[2, 3], [1, 3], [1, 2]], RINGS), [[0, 1, 2, 1, 3, 0]])

    def test_the_first_of_several(self):
        self.assertEqual(ask_after(circle(4), RINGS), [[0, 1, 2, 1, 4, 3, 0]])

    def test_a_ring_of_even_length_may_come_first(self):
        told = ask_after(SIX, RINGS, PAIRS)
        self.assertEqual(told, [[0, 1, 3, 4, 5, 6, 2, 1, 0], [0, 1, 3, 5, 1, 6, 2, 4]])

    def test_three_odd_guests(self):
        self.assertEqual(ask_after(THREE, RINGS), [[0, 1, 2, 3, 1, 3, 1, 2, 3]])
        self.assertEqual(ask_after([[3, 2], [1, 3], [2, 1]], RINGS), [[0, 1, 3, 1, 2, 3, 1, 2, 3]])

    def test_three_odd_guests_among_others(self):
        lists = [[4], [5, 6], [], [1], [6, 2], [2, 5], []]
        self.assertEqual(ask_after(lists, RINGS), [[0, 1, 4, 5, 3, 1, 6, 2, 7, 3, 2, 5, 6]])

    def test_two_rings_of_three(self):
        lists = THREE + [[5, 6], [6, 4], [4, 5]] + [[]]
        self.assertEqual(ask_after(lists, RINGS), [[0, 1, 2, 3, 1, 5, 6, 4, 7, 6, 1, 2, 3, 4, 5, 6]])

    def test_five_and_seven_odd_guests(self):
        self.assertEqual(ask_after(circle(5), RINGS), [[0, 1, 2, 3, 4, 5, 1, 5, 1, 2, 3, 4, 5]])
        self.assertEqual(ask_after(circle(7), RINGS), [[0, 1, 2, 3, 4, 5, 6, 7, 1, 7, 1, 2, 3, 4, 5, 6, 7]])

    def test_by_the_lists_as_they_are_now(self):
        told = ask_after(THREE, RINGS, give_list(3, [2]), RINGS)
        self.assertEqual(told, [[0, 1, 2, 3, 1, 3, 1, 2, 3], [0], [0, 1, 1, 3, 2, 0]])


class ProveTest(unittest.TestCase):
    def test_rings_that_hold(self):
        self.assertEqual(ask([open_group(1), prove([1])])[1], [0, 0, 0])
        self.assertEqual(ask_after(THREE, prove([2, 3, 1])), [[0, 0, 3, 1, 2, 3]])
        self.assertEqual(ask_after(circle(5), prove([2, 3, 4, 5, 1])), [[0, 0, 5, 1, 2, 3, 4, 5]])
        self.assertEqual(ask_after(circle(7), prove([2, 3, 4, 5, 6, 7, 1])), [[0, 0, 7, 1, 2, 3, 4, 5, 6, 7]])

    def test_rings_of_even_length_have_no_odd_guests(self):
        told = ask_after(circle(4), prove([2, 3, 4, 1]), prove([2, 1, 4, 3]), prove([4, 3, 2, 1]))
        self.assertEqual(told, [[0, 0, 0]] * 3)
        self.assertEqual(ask_after(SIX, prove([3, 4, 5, 6, 2, 1])), [[0, 0, 0]])

    def test_no_rings(self):
        rows = {
            "told twice": [2, 1, 1, 4],
            "nobody": [0, 0, 0, 0],
            "one nobody": [2, 1, 0, 4],
            "not there": [2, 1, 3, 5],
            "may not share": [3, 2, 1, 4],
        }
        for why, row in rows.items():
            with self.subTest(why):
                self.assertEqual(ask_after(circle(4), prove(row)), [[0, 1]])

    def test_one_sided_is_no_rings(self):
        self.assertEqual(ask_after([[2], []], prove([2, 1])), [[0, 1]])
        self.assertEqual(ask_after([[], [1]], prove([2, 1])), [[0, 1]])

    def test_the_first_who_does_not_like_the_next_better(self):
        self.assertEqual(ask_after(THREE, prove([3, 1, 2])), [[0, 2, 1]])
        # 1 likes 2 better than 3; of 2 and 3, who don't, 2 comes first.
        self.assertEqual(ask_after([[2, 3], [1, 3], [2, 1]], prove([2, 3, 1])), [[0, 2, 2]])
        self.assertEqual(ask_after([[2, 3], [3, 1], [2, 1]], prove([2, 3, 1])), [[0, 2, 3]])

    def test_the_first_two_who_would_rather_share(self):
        self.assertEqual(ask_after(THREE, prove([1, 2, 3])), [[0, 3, 1, 2]])
        self.assertEqual(ask_after(THREE, prove([2, 1, 3])), [[0, 3, 2, 3]])
        self.assertEqual(ask_after(THREE, prove([1, 3, 2])), [[0, 3, 1, 3]])

    def test_rather_is_measured_by_the_one_before(self):
        # 4 is liked less than the next one and better than the one before, by 1 alone.
        lists = [[2, 4, 3], [3, 1], [1, 2], [1]]
        self.assertEqual(ask_after(lists, prove([2, 3, 1, 4])), [[0, 3, 1, 4]])
        lists = [[2, 3, 4], [3, 1], [1, 2], [1]]
        self.assertEqual(ask_after(lists, prove([2, 3, 1, 4])), [[0, 0, 3, 1, 2, 3]])

    def test_of_what_is_due_the_first(self):
        lists = [[2, 3], [3, 1], [1, 2], [5], [4]]
        # 4 and 5 would rather share in each of these.
        told = ask_after(lists, prove([3, 1, 1, 4, 5]), prove([3, 1, 2, 4, 5]), prove([2, 3, 1, 4, 5]),
                         prove([2, 3, 1, 5, 4]))
        self.assertEqual(told, [[0, 1], [0, 2, 1], [0, 3, 4, 5], [0, 0, 3, 1, 2, 3]])
        # 2 and 4 may not share, and 3 likes the next one, 2, less than the one before, 1.
        self.assertEqual(ask_after(lists, prove([3, 4, 2, 1, 5])), [[0, 1]])


if __name__ == "__main__":
    unittest.main()
