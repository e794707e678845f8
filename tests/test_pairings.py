"""pairs, check, partners, count and nth on ordinary groups and at the edges."""

import unittest

from tests.helper import (COUNT, PAIRS, SAME_ORDER, THREE_STABLE, ask, ask_after, check, circle, give_list, group, nth,
                          open_group, partners)


class PairsTest(unittest.TestCase):
    def test_one_guest_is_alone(self):
        self.assertEqual(ask([open_group(1), PAIRS]), [[0], [0, 1, 0]])

    def test_lists_are_empty_at_first(self):
        self.assertEqual(ask([open_group(7), PAIRS])[1], [0, 1] + [0] * 7)

    def test_two_who_are_on_each_others_list_share(self):
        self.assertEqual(ask_after([[2], [1]], PAIRS), [[0, 1, 2, 1]])

    def test_one_sided_lists_pair_nobody(self):
        self.assertEqual(ask_after([[2, 3], [3], []], PAIRS), [[0, 1, 0, 0, 0]])

    def test_seven_guests_of_the_same_taste(self):
        self.assertEqual(ask_after(SAME_ORDER, PAIRS), [[0, 1, 2, 1, 4, 3, 6, 5, 0]])

    def test_the_first_of_several(self):
        self.assertEqual(ask_after(circle(4), PAIRS), [[0, 1, 2, 1, 4, 3]])

    def test_first_goes_by_the_row_and_not_by_liking(self):
        # 1 and 2 would have the later one, where 1 shares with 4, and 2 with 3.
        lists = [[4, 3], [3, 4], [1, 2], [2, 1]]
        self.assertEqual(ask_after(lists, PAIRS), [[0, 1, 3, 4, 1, 2]])

    def test_none_in_circles_of_odd_length(self):
        for guests in (3, 5, 7):
            with self.subTest(guests=guests):
                self.assertEqual(ask_after(circle(guests), PAIRS), [[0, 0]])

    def test_a_list_given_anew_takes_the_place_of_the_old_one(self):
        calls = group([2, 3], [1, 3], [1, 2]) + [PAIRS, give_list(1, [3]), PAIRS, give_list(1, []), PAIRS]
        told = ask(calls)
        self.assertEqual(told[4], [0, 1, 2, 1, 0])
        self.assertEqual(told[6], [0, 1, 3, 0, 1])
        self.assertEqual(told[8], [0, 1, 0, 3, 2])


class CheckTest(unittest.TestCase):
    def test_stable(self):
        self.assertEqual(ask_after(circle(4), check([2, 1, 4, 3]), check([4, 3, 2, 1])), [[0, 0], [0, 0]])
        self.assertEqual(ask_after(SAME_ORDER, check([2, 1, 4, 3, 6, 5, 0])), [[0, 0]])
        self.assertEqual(ask([open_group(1), check([0])])[1], [0, 0])

    def test_no_pairing(self):
        rows = {
            "not told back": [2, 0, 0, 0],
            "told another": [2, 3, 2, 0],
            "may not share": [3, 0, 1, 0],
            "with themselves": [1, 0, 0, 0],
            "nobody there": [7, 0, 0, 0],
            "the one behind the last": [5, 0, 0, 0],
        }
        for why, row in rows.items():
            with self.subTest(why):
                self.assertEqual(ask_after(circle(4), check(row)), [[0, 1]])

    def test_one_sided_is_no_pairing(self):
        self.assertEqual(ask_after([[2], []], check([2, 1])), [[0, 1]])
        self.assertEqual(ask_after([[], [1]], check([2, 1])), [[0, 1]])

    def test_the_first_two_who_would_rather_share(self):
        self.assertEqual(ask_after(circle(4), check([0, 0, 0, 0])), [[0, 2, 1, 2]])
        self.assertEqual(ask_after(circle(4), check([2, 1, 0, 0])), [[0, 2, 2, 3]])
        self.assertEqual(ask_after(circle(4), check([0, 3, 2, 0])), [[0, 2, 1, 4]])
        self.assertEqual(ask_after(SAME_ORDER, check([7, 4, 5, 2, 3, 0, 1])), [[0, 2, 1, 2]])
        self.assertEqual(ask_after(SAME_ORDER, check([2, 1, 4, 3, 7, 0, 5])), [[0, 2, 5, 6]])

    def test_both_must_like_it_better(self):
        # 3 would go to 1 and to 2, but those two are content.
        self.assertEqual(ask_after([[2, 3], [1, 3], [1, 2]], check([2, 1, 0])), [[0, 0]])

    def test_one_sided_liking_hinders_nothing(self):
        self.assertEqual(ask_after([[3, 2], [1], []], check([2, 1, 0])), [[0, 0]])

    def test_by_the_lists_as_they_are_now(self):
        told = ask_after([[2], [1]], check([2, 1]), give_list(2, []), check([2, 1]), check([0, 0]))
        self.assertEqual(told, [[0, 0], [0], [0, 1], [0, 0]])


class PartnersTest(unittest.TestCase):
    def test_the_best_first(self):
        told = ask_after(circle(4), partners(1), partners(2), partners(3), partners(4))
        self.assertEqual(told, [[0, 2, 2, 4], [0, 2, 3, 1], [0, 2, 4, 2], [0, 2, 1, 3]])

    def test_each_once(self):
        # 5 and 6 share in both of the stable pairings.
        lists = circle(4) + [[6], [5]]
        self.assertEqual(ask_after(lists, COUNT)[0][2], 2)
        self.assertEqual(ask_after(lists, partners(5), partners(6)), [[0, 1, 6], [0, 1, 5]])

    def test_alone_in_all(self):
        self.assertEqual(ask_after(SAME_ORDER, partners(7)), [[0, 1, 0]])
        self.assertEqual(ask([open_group(1), partners(1)])[1], [0, 1, 0])

    def test_nobody_if_none_is_stable(self):
        self.assertEqual(ask_after(circle(3), partners(1), partners(3)), [[0, 0], [0, 0]])


class CountTest(unittest.TestCase):
    def test_lone_guests(self):
        self.assertEqual(ask([open_group(1), COUNT])[1], [0, 1, 1])
        self.assertEqual(ask([open_group(7), COUNT])[1], [0, 1, 1])

    def test_all_may_share(self):
        for guests, pairings in ((2, 2), (3, 4), (4, 10), (5, 26), (6, 76), (7, 232)):
            with self.subTest(guests=guests):
                lists = [[other for other in range(1, guests + 1) if other != guest] for guest in range(1, guests + 1)]
                self.assertEqual(ask_after(lists, COUNT), [[0, pairings, 1]])

    def test_several_and_none(self):
        self.assertEqual(ask_after(circle(4), COUNT), [[0, 7, 2]])
        self.assertEqual(ask_after(circle(3), COUNT), [[0, 4, 0]])
        self.assertEqual(ask_after(circle(7), COUNT), [[0, 29, 0]])

    def test_one_sided_lists_do_not_count(self):
        self.assertEqual(ask_after([[2, 3], [3], [1]], COUNT), [[0, 2, 1]])


class NthTest(unittest.TestCase):
    def test_in_order(self):
        told = ask_after(circle(4), nth(1), nth(2), nth(3))
        self.assertEqual(told, [[0, 2, 1, 4, 3], [0, 4, 3, 2, 1], [-7]])

    def test_three_of_them(self):
        told = ask_after(THREE_STABLE, COUNT, nth(1), nth(2), nth(3), nth(4), partners(1), partners(4))
        self.assertEqual(told, [
            [0, 34, 3],
            [0, 4, 5, 6, 1, 2, 3],
            [0, 5, 6, 4, 3, 1, 2],
            [0, 6, 4, 5, 2, 3, 1],
            [-7],
            [0, 3, 4, 5, 6],
            [0, 3, 2, 3, 1],
        ])

    def test_the_edges_of_k(self):
        self.assertEqual(ask_after([[2], [1]], nth(1), nth(2), nth(1000)), [[0, 2, 1], [-7], [-7]])
        self.assertEqual(ask_after(circle(5), nth(1), nth(1000)), [[-7], [-7]])


if __name__ == "__main__":
    unittest.main()
