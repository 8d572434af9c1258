"""The calls pass and out."""

import itertools
import unittest

from tests.helper import HUGE, HouseCase, Play, linked_play


def come_in(points):
    """A play where items 1, 2, .. for those points of office 1 are in its bin, at 721."""
    play = linked_play()
    for number, point in enumerate(points, start=1):
        play.post(0, number, 1, point=point)
    play.on(721)
    return play


class Pass(HouseCase):
    def test_one_pass_goes_by_the_remainder(self):
        play = come_in([8, 0, 4, 7, 1, 3, 2, 6, 5])
        self.assertEqual(play.do("pass_items", 1, 9), [9, 1])
        self.assertEqual(play.tray_of(1), [2, 6, 8, 3, 4, 5, 1, 7, 9])
        self.assertEqual(play.bin_of(1), [])
        self.assertEqual(play.item(2).place, (2, 1, 0))

    def test_two_passes_go_by_the_point(self):
        play = come_in([8, 0, 4, 7, 1, 3, 2, 6, 5])
        play.do("pass_items", 1, 9)
        self.assertEqual(play.do("pass_items", 1, 9), [9, 2])
        self.assertEqual(play.tray_of(1), [2, 5, 7, 6, 3, 9, 8, 4, 1])

    def test_items_of_one_point_keep_their_order(self):
        play = come_in([4, 4, 1, 4, 1])
        play.do("pass_items", 1, 100)
        self.assertEqual(play.tray_of(1), [1, 2, 3, 4, 5])
        play.do("pass_items", 1, 100)
        self.assertEqual(play.tray_of(1), [3, 5, 1, 2, 4])

    def test_every_order_of_three_points_is_sorted(self):
        for points in itertools.permutations((2, 3, 7)):
            play = come_in(points)
            play.do("pass_items", 1, 100)
            play.do("pass_items", 1, 100)
            self.assertEqual([points[number - 1] for number in play.tray_of(1)], [2, 3, 7])

    def test_no_message_is_told(self):
        play = come_in([1, 2])
        told = len(play.messages())
        play.do("pass_items", 1, 1)
        play.do("pass_items", 1, 0)
        self.assertEqual(len(play.messages()), told)

    def test_a_first_pass_of_fewer_items(self):
        play = come_in([5, 4, 3, 2])
        self.assertEqual(play.do("pass_items", 1, 3), [3, 1])
        self.assertEqual(play.tray_of(1), [3, 2, 1])
        self.assertEqual(play.bin_of(1), [4])

    def test_a_second_pass_of_fewer_items(self):
        play = come_in([5, 4, 3, 2])
        play.do("pass_items", 1, 4)
        self.assertEqual(play.tray_of(1), [3, 2, 1, 4])
        self.assertEqual(play.do("pass_items", 1, 2), [2, 2])
        self.assertEqual(play.tray_of(1), [3, 2])
        self.assertEqual(play.bin_of(1), [1, 4])
        self.assertEqual(play.item(4).place, (0, 1, 0))

    def test_what_the_second_pass_leaves_goes_behind_the_others(self):
        play = come_in([5, 4, 3])
        play.do("pass_items", 1, 2)
        self.assertEqual(play.bin_of(1), [3])
        play.do("pass_items", 1, 1)
        self.assertEqual(play.tray_of(1), [2])
        self.assertEqual(play.bin_of(1), [3, 1])

    def test_one_item_and_more_than_there_are(self):
        play = come_in([5, 4])
        self.assertEqual(play.do("pass_items", 1, 1), [1, 1])
        self.assertEqual(play.do("pass_items", 1, 100), [1, 2])

    def test_a_first_pass_of_none_leaves_the_tray_empty(self):
        play = come_in([5, 4])
        self.assertEqual(play.do("pass_items", 1, 0), [0, 0])
        self.assertEqual(play.bin_of(1), [1, 2])
        self.assertEqual(play.do("pass_items", 1, 2), [2, 1])

    def test_a_second_pass_of_none_empties_the_tray(self):
        play = come_in([5, 4, 3])
        play.do("pass_items", 1, 2)
        self.assertEqual(play.do("pass_items", 1, 0), [0, 0])
        self.assertEqual(play.tray_of(1), [])
        self.assertEqual(play.bin_of(1), [3, 2, 1])
        self.assert_refused(play, -6, "out", 1)
        self.assertEqual(play.do("pass_items", 1, 9), [3, 1])

    def test_lost_items_and_those_for_other_offices_stay(self):
        play = come_in([5, 4, 3])
        play.post(1, 50, 0)
        play.do("lose", 2, 0)
        self.assertEqual(play.do("pass_items", 1, 2), [2, 1])
        self.assertEqual(play.tray_of(1), [3, 1])
        self.assertEqual(play.bin_of(1), [2, 50])

    def test_items_that_go_back_are_sorted_by_their_home(self):
        play = linked_play()
        for number, home in ((1, 4), (2, 0), (3, 8)):
            play.post(0, number, 1, point=9 - 3 * number, home=home)
        play.on(721)
        play.sort_out(1)
        for number in play.round_of(1):
            play.do("hand", number, 2)
        self.assertEqual(play.bin_of(1), [3, 2, 1])
        self.assert_refused(play, -7, "pass_items", 1, 9)
        play.on(861)
        self.assertEqual(play.do("pass_items", 0, 9), [3, 1])
        self.assertEqual(play.tray_of(0), [2, 1, 3])

    def test_the_range(self):
        for office in (-1, 4, HUGE, -HUGE):
            self.assert_refused(come_in([1]), -1, "pass_items", office, 5)
        self.assert_range(lambda: come_in([1]), "pass_items", (1, 5), 1, 0, 100)

    def test_offices_at_both_ends(self):
        for office in (0, 3):
            play = Play()
            play.trip(1, 1, office, 100, 10)
            play.post(1, 1, office)
            play.on(111)
            self.assertEqual(play.do("pass_items", office, 5), [1, 1])

    def test_behind_two_passes(self):
        play = come_in([1, 2])
        play.do("pass_items", 1, 1)
        play.do("pass_items", 1, 1)
        self.assert_refused(play, -6, "pass_items", 1, 5)
        self.assert_refused(play, -6, "pass_items", 1, 0)
        self.assert_refused(play, -1, "pass_items", 1, 101)

    def test_nothing_is_to_be_sorted(self):
        self.assert_refused(Play(), -7, "pass_items", 0, 5)
        self.assert_refused(Play(), -7, "pass_items", 0, 0)
        self.assert_refused(Play(), -1, "pass_items", 0, -1)
        play = come_in([1])
        play.post(1, 50, 0)
        play.do("lose", 1, 0)
        self.assert_refused(play, -7, "pass_items", 1, 5)

    def test_each_office_has_a_tray_of_its_own(self):
        play = come_in([1, 2])
        play.post(1, 50, 0)
        play.on(861)
        self.assertEqual(play.do("pass_items", 1, 9), [2, 1])
        self.assertEqual(play.do("pass_items", 0, 9), [1, 1])
        self.assertEqual(play.do("pass_items", 1, 9), [2, 2])
        self.assertEqual(play.do("pass_items", 0, 9), [1, 2])


class Out(HouseCase):
    def test_the_tray_is_the_round(self):
        play = come_in([7, 0, 4])
        self.assertEqual(play.sort_out(1), [3])
        self.assertEqual(play.round_of(1), [2, 3, 1])
        self.assertEqual(play.tray_of(1), [])
        self.assertEqual(play.house().passes, [0] * 4)
        self.assertEqual(play.item(2).place, (3, 1, 0))
        self.assertEqual(play.messages()[-3:], [(1, 721, 2, 3), (1, 721, 3, 3), (1, 721, 1, 3)])

    def test_the_range(self):
        for office in (-1, 4, HUGE, -HUGE):
            self.assert_refused(come_in([1]), -1, "out", office)

    def test_offices_at_both_ends(self):
        for office in (0, 3):
            play = Play()
            play.trip(1, 1, office, 100, 10)
            play.post(1, 1, office)
            play.on(111)
            self.assertEqual(play.sort_out(office), [1])

    def test_without_two_passes(self):
        play = come_in([1])
        self.assert_refused(play, -6, "out", 1)
        play.do("pass_items", 1, 5)
        self.assert_refused(play, -6, "out", 1)
        play.do("pass_items", 1, 5)
        self.assertEqual(play.do("out", 1), [1])
        self.assert_refused(play, -6, "out", 1)

    def test_the_round_is_not_empty(self):
        play = come_in([1, 2])
        for step in range(2):
            play.do("pass_items", 1, 1)
        play.do("out", 1)
        self.assertEqual(play.do("pass_items", 1, 1), [1, 1])
        self.assert_refused(play, -6, "out", 1)
        play.do("pass_items", 1, 1)
        self.assert_refused(play, -8, "out", 1)
        play.do("hand", 1, 0)
        self.assertEqual(play.do("out", 1), [1])
        self.assertEqual(play.round_of(1), [2])


if __name__ == "__main__":
    unittest.main()
