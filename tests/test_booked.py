"""book, rooms and join: the pairing that is booked, and what becomes of it."""

import unittest

from tests.helper import (BIG, COUNT, LISTS, NO_PAIRINGS, ROOMS, SAME_ORDER, THREE_STABLE, ask, ask_after, blocks, book,
                          check, circle, give_list, join, median, nth, open_group, prefer, settle)

ALONE = [0, 0, 0, 0]


class BookTest(unittest.TestCase):
    def test_how_many_are_alone(self):
        told = ask_after(circle(4), book([2, 1, 4, 3]), book([0, 3, 2, 0]), book(ALONE))
        self.assertEqual(told, [[0, 0], [0, 2], [0, 4]])
        self.assertEqual(ask([open_group(1), book([0])])[1], [0, 1])
        self.assertEqual(ask([open_group(7), book([0] * 7)])[1], [0, 7])
        self.assertEqual(ask_after(SAME_ORDER, book([2, 1, 4, 3, 6, 5, 0]), book([0, 3, 2, 0, 7, 0, 5])),
                         [[0, 1], [0, 3]])

    def test_stable_or_not(self):
        told = ask_after(circle(4), book([4, 3, 2, 1]), ROOMS, book([2, 1, 0, 0]), ROOMS)
        self.assertEqual(told, [[0, 0], [0, 4, 3, 2, 1, 1, 0], [0, 2], [0, 2, 1, 0, 0, 1, 2, 2, 3, 3, 4]])

    def test_one_behind_another(self):
        told = ask_after(THREE_STABLE, book([0] * 6), book([4, 5, 6, 1, 2, 3]), book([6, 4, 5, 2, 3, 1]), ROOMS)
        self.assertEqual(told, [[0, 6], [0, 0], [0, 0], [0, 6, 4, 5, 2, 3, 1, 1, 0]])

    def test_the_same_again(self):
        told = ask_after(circle(4), book([2, 1, 4, 3]), book([2, 1, 4, 3]), ROOMS)
        self.assertEqual(told, [[0, 0], [0, 0], [0, 2, 1, 4, 3, 1, 0]])

    def test_nothing_else_is_changed_by_it(self):
        told = ask_after(circle(4), LISTS, COUNT, book([2, 1, 0, 0]), LISTS, COUNT)
        self.assertEqual(told[:2], told[3:])


class RoomsTest(unittest.TestCase):
    def test_nothing_is_booked(self):
        self.assertEqual(ask([open_group(1), ROOMS])[1], [-10])
        self.assertEqual(ask_after(circle(4), ROOMS, check([2, 1, 4, 3]), ROOMS), [[-10], [0, 0], [-10]])

    def test_no_one_and_several_pairs(self):
        told = ask_after(circle(3), book([2, 1, 0]), ROOMS, book([0, 0, 0]), ROOMS)
        self.assertEqual(told, [[0, 1], [0, 2, 1, 0, 1, 1, 2, 3], [0, 3], [0, 0, 0, 0, 1, 3, 1, 2, 1, 3, 2, 3]])
        self.assertEqual(ask([open_group(1), book([0]), ROOMS])[2], [0, 0, 1, 0])
        self.assertEqual(ask([open_group(7), book([0] * 7), ROOMS])[2], [0] + [0] * 7 + [1, 0])

    def test_lists_given_anew_and_still_a_pairing(self):
        told = ask_after(circle(4), book([2, 1, 0, 0]), ROOMS, give_list(3, [4]), ROOMS, give_list(4, []), ROOMS)
        self.assertEqual(told, [[0, 2], [0, 2, 1, 0, 0, 1, 2, 2, 3, 3, 4], [0], [0, 2, 1, 0, 0, 1, 1, 3, 4], [0],
                                [0, 2, 1, 0, 0, 1, 0]])

    def test_lists_given_anew_and_no_longer_a_pairing(self):
        told = ask_after(circle(4), book([2, 1, 0, 0]), give_list(1, [4]), ROOMS, give_list(1, []), ROOMS)
        self.assertEqual(told, [[0, 2], [0], [0, 2, 1, 0, 0, 0], [0], [0, 2, 1, 0, 0, 0]])

    def test_no_longer_a_pairing_and_then_one_again(self):
        told = ask_after(circle(4), book([2, 1, 0, 0]), give_list(2, [3]), ROOMS, give_list(2, [1, 3]), ROOMS)
        self.assertEqual(told, [[0, 2], [0], [0, 2, 1, 0, 0, 0], [0], [0, 2, 1, 0, 0, 1, 1, 3, 4]])

    def test_nothing_is_changed_by_it(self):
        told = ask_after(circle(4), book([0, 3, 2, 0]), ROOMS, ROOMS, LISTS, ROOMS)
        self.assertEqual(told[1], [0, 0, 3, 2, 0, 1, 2, 1, 4, 3, 4])
        self.assertEqual([told[2], told[4]], [told[1]] * 2)


class JoinTest(unittest.TestCase):
    def joined(self, lists, row, one, other):
        """What join answers, the same with the greater first; and that it is what's booked then."""
        told = ask_after(lists, book(row), join(one, other), ROOMS)
        turned = ask_after(lists, book(row), join(other, one), ROOMS)
        self.assertEqual(told, turned)
        self.assertEqual(told[2][:len(lists) + 1], told[1])
        return told[1]

    def test_two_who_are_alone(self):
        self.assertEqual(self.joined(circle(4), ALONE, 3, 4), [0, 0, 0, 4, 3])
        self.assertEqual(self.joined(circle(4), ALONE, 1, 4), [0, 4, 0, 0, 1])
        self.assertEqual(self.joined(circle(4), [2, 1, 0, 0], 3, 4), [0, 2, 1, 4, 3])
        self.assertEqual(self.joined(SAME_ORDER, [0] * 7, 6, 7), [0, 0, 0, 0, 0, 0, 7, 6])

    def test_one_who_shares(self):
        self.assertEqual(self.joined(circle(4), [2, 1, 0, 0], 2, 3), [0, 0, 3, 2, 0])
        self.assertEqual(self.joined(circle(3), [3, 0, 1], 1, 2), [0, 2, 1, 0])

    def test_two_who_both_share(self):
        row = [7, 4, 5, 2, 3, 0, 1]
        self.assertEqual(self.joined(SAME_ORDER, row, 1, 2), [0, 2, 1, 5, 0, 3, 0, 0])
        # Not the first two who would rather share, and 2 and 4 stay as they are.
        self.assertEqual(self.joined(SAME_ORDER, row, 1, 3), [0, 3, 4, 1, 2, 0, 0, 0])

    def test_one_behind_another(self):
        told = ask_after(circle(4), book(ALONE), join(1, 2), join(3, 2), join(4, 1), ROOMS, join(1, 2))
        self.assertEqual(told, [[0, 4], [0, 2, 1, 0, 0], [0, 0, 3, 2, 0], [0, 4, 3, 2, 1], [0, 4, 3, 2, 1, 1, 0], [-9]])

    def test_by_the_lists_as_they_are_now(self):
        told = ask_after(circle(4), book([2, 1, 4, 3]), join(2, 3), give_list(3, [2, 4]), join(2, 3), ROOMS)
        self.assertEqual(told, [[0, 0], [-9], [0], [0, 0, 3, 2, 0], [0, 0, 3, 2, 0, 1, 1, 1, 4]])

    def test_once_it_is_a_pairing_again(self):
        told = ask_after(circle(4), book([2, 1, 0, 0]), give_list(1, []), join(3, 4), give_list(1, [2]), join(3, 4))
        self.assertEqual(told, [[0, 2], [0], [-8], [0], [0, 2, 1, 4, 3]])

    def test_another_pairing_may_be_booked_behind_it(self):
        told = ask_after(circle(4), book(ALONE), join(1, 2), book([0, 3, 2, 0]), ROOMS)
        self.assertEqual(told[3], [0, 0, 3, 2, 0, 1, 2, 1, 4, 3, 4])


class RefusedTest(unittest.TestCase):
    def test_book_not_as_many_as_there_are_guests(self):
        for guests in range(1, 8):
            for length in range(8):
                if length != guests:
                    with self.subTest(guests=guests, length=length):
                        self.assertEqual(ask([open_group(guests), book([0] * length), ROOMS])[1:], [[-6], [-10]])

    def test_book_no_pairing(self):
        for row in NO_PAIRINGS:
            with self.subTest(row=row):
                self.assertEqual(ask_after(circle(4), book(row), ROOMS), [[-8], [-10]])
        for lists in ([[2], []], [[], [1]]):
            with self.subTest(lists=lists):
                self.assertEqual(ask_after(lists, book([2, 1]), ROOMS), [[-8], [-10]])

    def test_of_book_the_first_that_is_due(self):
        self.assertEqual(ask_after(circle(4), book([7]), book([3, 0, 1]), book([7] * 7)), [[-6]] * 3)
        for row in ([8], [0, 0, 0, -1], [BIG], [-BIG, 0, 0, 0], [0] * 8, [1] * 100, [-BIG] * 100):
            with self.subTest(row=row):
                self.assertEqual(ask_after(circle(4), book(row), ROOMS), [[-1], [-10]])
                self.assertEqual(ask([book(row)]), [[-1]])

    def test_no_group_is_open(self):
        told = ask([book([]), book([0] * 7), book([1]), ROOMS, join(1, 2), join(7, 7), join(1, 1)])
        self.assertEqual(told, [[-2]] * 7)

    def test_what_came_ahead_of_open_books_nothing(self):
        self.assertEqual(ask([book([0]), open_group(1), ROOMS]), [[-2], [0], [-10]])

    def test_join_they_would_not_rather_share(self):
        refused = {
            "they may not": join(1, 3),
            "the same guest": join(1, 1),
            "they share already": join(1, 2),
            "one of them would not": join(4, 1),
        }
        for why, call in refused.items():
            with self.subTest(why):
                told = ask_after(circle(4), book([2, 1, 0, 0]), call, ROOMS)
                self.assertEqual(told[1:], [[-9], [0, 2, 1, 0, 0, 1, 2, 2, 3, 3, 4]])
        # Only 1 has 2 on the list.
        self.assertEqual(ask_after([[2], []], book([0, 0]), join(1, 2), join(2, 1)), [[0, 2], [-9], [-9]])

    def test_of_join_the_first_that_is_due(self):
        # Nobody may share with 1 any more, so that the booked one is no pairing.
        broken = [book([2, 1, 0, 0]), give_list(1, [])]
        there = [join(3, 4), join(1, 2), join(1, 1)]
        elsewhere = [join(5, 1), join(1, 5), join(7, 7), join(5, 5)]
        outside = [join(0, 1), join(1, 0), join(8, 1), join(1, 8), join(BIG, 5), join(5, -BIG), join(-1, -1)]
        self.assertEqual(ask_after(circle(4), *there + elsewhere), [[-10]] * 7)
        self.assertEqual(ask_after(circle(4), *broken + elsewhere)[2:], [[-4]] * 4)
        self.assertEqual(ask_after(circle(4), book(ALONE), *elsewhere)[1:], [[-4]] * 4)
        self.assertEqual(ask_after(circle(4), *broken + there)[2:], [[-8]] * 3)
        for before in ([], [book(ALONE)], broken):
            with self.subTest(before=before):
                self.assertEqual(ask_after(circle(4), *before + outside)[len(before):], [[-1]] * 7)
        self.assertEqual(ask(outside), [[-1]] * 7)

    def test_nothing_has_changed_after_a_refusal(self):
        refused = [book([0]), book([8, 0, 0, 0]), book([3, 0, 1, 0]), book([0] * 100), join(0, 1), join(1, 5),
                   join(1, 3), join(1, 1), blocks([1, 0, 0, 0]), settle(50, [3, 0, 1, 0]), settle(51, ALONE),
                   median(1, 2, 3), median(0, 1, 1), nth(3), prefer(1, 3, 0), prefer(5, 0, 0), prefer(1, 8, 0),
                   open_group(4), give_list(1, [1]), give_list(2, [5]), give_list(5, []), give_list(1, [8])]
        asked = [ROOMS, LISTS, COUNT, join(2, 3), ROOMS]
        plain = ask_after(circle(4), book([2, 1, 0, 0]), *asked)[1:]
        for call in refused:
            with self.subTest(call=call):
                told = ask_after(circle(4), book([2, 1, 0, 0]), call, *asked)[1:]
                self.assertEqual(len(told[0]), 1)
                self.assertLess(told[0][0], 0)
                self.assertEqual(told[1:], plain)

    def test_a_join_refused_by_the_lists_changes_nothing(self):
        told = ask_after(circle(4), book([2, 1, 0, 0]), give_list(1, []), join(3, 4), ROOMS)
        self.assertEqual(told[2:], [[-8], [0, 2, 1, 0, 0, 0]])


if __name__ == "__main__":
    unittest.main()
