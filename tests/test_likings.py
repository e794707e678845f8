"""prefer and lists: whom a guest likes better, and the lists as they were given."""

import unittest

from tests.helper import (BIG, LISTS, SAME_ORDER, ask, ask_after, circle, give_list, group, open_group, prefer)

# 4 is on the list of 1 and not the other way round; 2 is on the list of 3 and not the other way round.
FOUR = [[3, 2, 4], [1], [1, 2], []]


class PreferTest(unittest.TestCase):
    def test_one_of_two(self):
        self.assertEqual(ask_after(FOUR, prefer(1, 3, 2), prefer(1, 2, 3)), [[0, 1], [0, 2]])

    def test_the_same(self):
        self.assertEqual(ask_after(FOUR, prefer(1, 3, 3), prefer(1, 2, 2), prefer(2, 1, 1)), [[0, 0]] * 3)

    def test_everybody_rather_than_alone(self):
        told = ask_after(FOUR, prefer(1, 2, 0), prefer(1, 0, 2), prefer(1, 3, 0), prefer(1, 0, 3), prefer(3, 1, 0))
        self.assertEqual(told, [[0, 1], [0, 2], [0, 1], [0, 2], [0, 1]])

    def test_both_alone(self):
        self.assertEqual(ask_after(FOUR, prefer(1, 0, 0), prefer(4, 0, 0)), [[0, 0], [0, 0]])
        self.assertEqual(ask([open_group(1), prefer(1, 0, 0)])[1], [0, 0])
        self.assertEqual(ask([open_group(7), prefer(7, 0, 0)])[1], [0, 0])

    def test_all_of_seven(self):
        for a in range(0, 7):
            for b in range(0, 7):
                with self.subTest(a=a, b=b):
                    wanted = 0 if a == b else 1 if (a or 8) < (b or 8) else 2
                    self.assertEqual(ask_after(SAME_ORDER, prefer(7, a, b)), [[0, wanted]])

    def test_by_the_lists_as_they_are_now(self):
        told = ask_after(FOUR, prefer(1, 3, 2), give_list(1, [2, 3]), prefer(1, 3, 2), give_list(2, []),
                         prefer(1, 3, 2), prefer(1, 3, 0))
        self.assertEqual(told, [[0, 1], [0], [0, 2], [0], [-9], [0, 1]])

    def test_no_such_guest(self):
        calls = [prefer(5, 0, 0), prefer(7, 1, 2), prefer(1, 5, 0), prefer(1, 0, 5), prefer(1, 7, 3), prefer(1, 3, 7),
                 prefer(5, 5, 5)]
        self.assertEqual(ask_after(FOUR, *calls), [[-4]] * len(calls))

    def test_the_guest_may_not_share(self):
        calls = [prefer(1, 4, 0), prefer(1, 0, 4), prefer(1, 4, 3), prefer(1, 3, 4), prefer(1, 4, 4), prefer(2, 3, 0),
                 prefer(2, 1, 3), prefer(3, 2, 0), prefer(4, 1, 0), prefer(1, 1, 0), prefer(1, 0, 1), prefer(1, 1, 1),
                 prefer(4, 4, 0)]
        self.assertEqual(ask_after(FOUR, *calls), [[-9]] * len(calls))

    def test_of_these_the_first_that_is_due(self):
        self.assertEqual(ask_after(FOUR, prefer(1, 4, 5), prefer(1, 5, 4), prefer(1, 1, 7), prefer(5, 1, 1)),
                         [[-4]] * 4)
        self.assertEqual(ask_after(FOUR, prefer(5, 8, 0), prefer(1, -1, 5), prefer(1, 4, 8), prefer(0, 5, 5)),
                         [[-1]] * 4)

    def test_out_of_range(self):
        calls = [prefer(0, 0, 0)]
        for number in (-BIG, -1, 8, BIG):
            calls += [prefer(number, 3, 2), prefer(1, number, 2), prefer(1, 3, number)]
        self.assertEqual(ask_after(FOUR, *calls), [[-1]] * len(calls))
        self.assertEqual(ask(calls), [[-1]] * len(calls))

    def test_no_group_is_open(self):
        self.assertEqual(ask([prefer(1, 0, 0), prefer(7, 7, 7)]), [[-2], [-2]])


class ListsTest(unittest.TestCase):
    def test_empty_at_first(self):
        self.assertEqual(ask([open_group(1), LISTS])[1], [0, 1, 0])
        self.assertEqual(ask([open_group(2), LISTS])[1], [0, 2, 0, 0])
        self.assertEqual(ask([open_group(7), LISTS])[1], [0, 7, 0, 0, 0, 0, 0, 0, 0])

    def test_as_they_were_given(self):
        # One-sided, too.
        self.assertEqual(ask_after(FOUR, LISTS), [[0, 4, 3, 3, 2, 4, 1, 1, 2, 1, 2, 0]])

    def test_lists_of_six(self):
        wanted = [number for others in SAME_ORDER for number in [6] + others]
        self.assertEqual(ask_after(SAME_ORDER, LISTS), [[0, 7] + wanted])

    def test_before_and_after(self):
        told = ask([open_group(3), LISTS, give_list(2, [3, 1]), LISTS, give_list(2, [1]), LISTS, give_list(2, []),
                    LISTS])
        self.assertEqual(told[1::2], [[0, 3, 0, 0, 0], [0, 3, 0, 2, 3, 1, 0], [0, 3, 0, 1, 1, 0], [0, 3, 0, 0, 0]])

    def test_a_refused_list_leaves_the_old_one(self):
        for refused in (give_list(1, [1]), give_list(1, [2, 2]), give_list(1, [0]), give_list(1, [4]),
                        give_list(1, [8]), give_list(1, [2] * 100), give_list(4, []), open_group(5)):
            with self.subTest(refused=refused):
                told = ask(group(*circle(3)) + [refused, LISTS])
                self.assertEqual(told[-1], [0, 3, 2, 2, 3, 2, 3, 1, 2, 1, 2])

    def test_no_group_is_open(self):
        self.assertEqual(ask([LISTS, give_list(1, []), LISTS, open_group(1), LISTS]),
                         [[-2], [-2], [-2], [0], [0, 1, 0]])


if __name__ == "__main__":
    unittest.main()
