"""The call on: runs that come, runs that go, items whose time at the counter is over, and their order."""

import unittest

from tests.helper import HUGE, HouseCase, Play, linked_play


class Times(HouseCase):
    def test_answers_the_time_and_how_many_messages_were_told(self):
        play = linked_play()
        play.post(0, 1, 1)
        play.post(0, 2, 1)
        self.assertEqual(play.on(721), [721, 4])
        self.assertEqual(play.on(721), [721, 0])
        self.assertEqual(play.on(2880), [2880, 0])

    def test_the_range(self):
        for until in (-1, 40001, HUGE, -HUGE):
            self.assert_refused(Play(), -1, "on", until)
        self.assertEqual(Play().on(0), [0, 0])
        play = Play()
        play.on_by_steps(39999)
        self.assert_refused(play, -1, "on", 40001)
        self.assertEqual(play.on(40000), [40000, 0])
        self.assertEqual(play.on(40000), [40000, 0])

    def test_not_before_the_present(self):
        play = Play()
        play.on(100)
        self.assert_refused(play, -7, "on", 99)
        self.assert_refused(play, -7, "on", 0)
        self.assert_refused(play, -1, "on", -1)
        self.assertEqual(play.on(100), [100, 0])

    def test_2880_at_most(self):
        play = Play()
        self.assert_refused(play, -9, "on", 2881)
        self.assert_refused(play, -9, "on", 40000)
        self.assert_refused(play, -1, "on", 40001)
        self.assertEqual(play.on(2880), [2880, 0])
        self.assert_refused(play, -9, "on", 5761)
        self.assertEqual(play.on(5760), [5760, 0])

    def test_an_event_at_the_time_itself_does_not_happen_yet(self):
        play = linked_play()
        play.post(0, 1, 1)
        self.assertEqual(play.on(600), [600, 0])
        self.assertEqual(play.on(601), [601, 1])
        self.assertEqual(play.on(720), [720, 0])
        self.assertEqual(play.on(721), [721, 1])

    def test_what_is_posted_at_the_run_s_own_minute_goes_with_it(self):
        play = linked_play()
        play.on(600)
        play.post(0, 1, 1)
        self.assertEqual(play.on(601), [601, 1])

    def test_messages_are_told_at_the_events_times(self):
        play = linked_play()
        play.post(0, 1, 1)
        play.on(1000)
        self.assertEqual(play.messages(1), [(0, 600, 1, 2), (1, 720, 1, 1)])
        self.assertEqual(play.house().now, 1000)
        self.assertEqual([list(known) for known in play.house().known], [[0, 1], [2], [], []])


class Going(HouseCase):
    def test_items_leave_the_bin_and_are_the_run_s_list(self):
        play = linked_play()
        play.post(0, 1, 1)
        play.post(0, 2, 3)
        play.on(601)
        self.assertEqual(play.bin_of(0), [2])
        self.assertEqual(play.item(1).place, (1, 1, 0))
        self.assertEqual([run.trip.number for run in play.house().under_way], [1])
        play.on(721)
        self.assertEqual(play.bin_of(1), [1])
        self.assertEqual(play.item(1).place, (0, 1, 0))
        self.assertEqual(play.house().under_way, [])

    def test_a_run_without_items_is_not_under_way_but_has_gone(self):
        play = linked_play()
        play.on(601)
        self.assertEqual(play.house().under_way, [])
        self.assertTrue(play.house().runs[(1, 0)].gone)
        self.assert_refused(play, -6, "cancel", 1, 0)

    def test_as_many_as_it_holds_ranked_ones_first(self):
        play = Play()
        play.trip(1, 0, 1, 600, 120, 3)
        for number, rank in ((1, 3), (2, 1), (3, 0), (4, 1), (5, 0), (6, 2)):
            play.post(0, number, 1, rank=rank)
        self.assertEqual(play.on(601), [601, 3])
        self.assertEqual([row[2] for row in play.messages(6)], [3, 5, 2])
        self.assertEqual(play.bin_of(0), [1, 4, 6])
        play.on(721)
        self.assertEqual(play.bin_of(1), [3, 5, 2])
        self.assertEqual(play.on(2041), [2041, 3])
        self.assertEqual([row[2] for row in play.messages(12)], [4, 6, 1])

    def test_a_run_that_holds_one_and_one_that_holds_20(self):
        for holds, left in ((1, 1), (20, 20)):
            play = Play()
            play.trip(1, 0, 1, 600, 120, holds)
            for number in range(1, 21):
                play.post(0, number, 1)
            self.assertEqual(play.on(601), [601, left])

    def test_lost_items_stay_and_take_no_place(self):
        play = Play()
        play.trip(1, 0, 1, 600, 120, 1)
        play.post(0, 1, 1)
        play.post(0, 2, 1, rank=3)
        play.do("lose", 1, 0)
        self.assertEqual(play.on(601), [601, 1])
        self.assertEqual(play.bin_of(0), [1])
        self.assertEqual(play.item(2).place, (1, 1, 0))

    def test_items_whose_earliest_way_begins_with_another_run_stay(self):
        play = Play()
        play.trip(1, 0, 1, 100, 1000)
        play.trip(2, 0, 1, 200, 100)
        play.post(0, 1, 1)
        self.assertEqual(play.on(200), [200, 0])
        self.assertEqual(play.on(201), [201, 1])
        self.assertEqual(play.item(1).place, (1, 2, 0))

    def test_the_way_is_looked_for_anew_when_a_run_goes(self):
        play = Play()
        play.trip(1, 0, 1, 100, 1000)
        play.trip(2, 0, 1, 200, 100)
        play.post(0, 1, 1)
        play.do("cancel", 2, 0)
        self.assertEqual(play.on(101), [101, 1])
        self.assertEqual(play.item(1).place, (1, 1, 0))

    def test_items_that_are_where_they_go_stay(self):
        play = linked_play()
        play.post(0, 1, 1)
        play.on(1000)
        self.assertEqual(play.on(3880), [3880, 0])
        self.assertEqual(play.bin_of(1), [1])

    def test_an_item_goes_on_by_further_runs(self):
        play = Play()
        play.trip(1, 0, 1, 100, 100)
        play.trip(2, 1, 2, 300, 100)
        play.trip(3, 2, 3, 500, 100)
        self.assertEqual(play.post(0, 1, 3), [0, 600])
        self.assertEqual(play.on(601), [601, 6])
        expected = [(0, 100, 1, 2), (1, 200, 1, 1), (1, 300, 1, 2), (2, 400, 1, 1), (2, 500, 1, 2), (3, 600, 1, 1)]
        self.assertEqual(play.messages(1), expected)


class Order(HouseCase):
    def test_what_comes_can_go_at_the_same_minute(self):
        play = Play()
        play.trip(9, 0, 1, 600, 120)
        play.trip(1, 1, 2, 720, 10)
        self.assertEqual(play.post(0, 1, 2), [0, 730])
        self.assertEqual(play.on(721), [721, 3])
        self.assertEqual(play.on(731), [731, 1])

    def test_runs_that_come_at_one_time_by_their_trips_numbers(self):
        play = Play()
        play.trip(9, 0, 3, 600, 120)
        play.trip(2, 1, 3, 650, 70)
        play.trip(5, 2, 3, 719, 1)
        for office in (2, 0, 1):
            play.post(office, office + 1, 3)
        play.on(721)
        self.assertEqual(play.bin_of(3), [2, 3, 1])

    def test_runs_that_go_at_one_time_by_their_trips_numbers(self):
        play = Play()
        play.trip(9, 0, 1, 600, 120)
        play.trip(2, 0, 2, 600, 120)
        play.trip(5, 0, 3, 600, 120)
        for to in (1, 2, 3):
            play.post(0, to, to)
        play.on(601)
        self.assertEqual([row[2] for row in play.messages(3)], [2, 3, 1])
        self.assertEqual([run.trip.number for run in play.house().under_way], [2, 5, 9])

    def test_the_second_of_two_runs_at_one_time_no_longer_sees_the_first(self):
        play = Play()
        play.trip(1, 0, 1, 600, 120, 1)
        play.trip(2, 0, 1, 600, 120, 1)
        play.post(0, 1, 1)
        play.post(0, 2, 1)
        self.assertEqual(play.on(601), [601, 2])
        self.assertEqual(play.item(1).place, (1, 1, 0))
        self.assertEqual(play.item(2).place, (1, 2, 0))

    def test_the_first_of_two_runs_at_one_time_leaves_what_goes_by_the_one_told_before(self):
        play = Play()
        play.trip(2, 0, 1, 600, 120, 1)
        play.trip(1, 0, 1, 600, 120, 1)
        play.post(0, 1, 1)
        play.post(0, 2, 1)
        self.assertEqual(play.on(601), [601, 1])
        self.assertEqual(play.item(1).place, (1, 2, 0))
        self.assertEqual(play.bin_of(0), [2])

    def test_several_events_in_one_step_by_their_times(self):
        play = linked_play()
        play.post(0, 7, 1)
        play.post(1, 3, 0)
        play.on(2000)
        expected = [(0, 600, 7, 2), (1, 720, 7, 1), (1, 800, 3, 2), (0, 860, 3, 1)]
        self.assertEqual(play.messages(2), expected)

    def test_one_trip_s_runs_of_several_days_are_under_way_at_once(self):
        play = Play()
        play.trip(1, 0, 1, 600, 2880)
        play.post(0, 1, 1)
        play.on(1000)
        play.post(0, 2, 1)
        play.on(2100)
        self.assertEqual([run.day for run in play.house().under_way], [0, 1])
        self.assertEqual(play.on(3481), [3481, 1])
        self.assertEqual(play.on(4921), [4921, 1])
        self.assertEqual(play.bin_of(1), [1, 2])


class Counter(HouseCase):
    def held(self, *numbers):
        """A play at 721 with those items at the counter of office 1."""
        play = linked_play()
        for number in numbers:
            play.post(0, number, 1, home=5)
        play.on(721)
        for attempt in range(2):
            play.sort_out(1)
            for number in play.round_of(1):
                self.assertEqual(play.do("hand", number, 1), [1, 0])
        return play

    def test_10080_minutes(self):
        play = self.held(4)
        self.assertEqual(play.item(4).place, (4, 1, 0))
        self.assertEqual(play.on_by_steps(721 + 10080), 0)
        self.assertEqual(play.item(4).place, (4, 1, 0))
        self.assertEqual(play.on(721 + 10081), [10802, 1])
        item = play.item(4)
        self.assertEqual((item.place, item.goes_back, item.attempts), ((0, 1, 0), True, 0))
        self.assertEqual(play.messages()[-1], (1, 10801, 4, 5))

    def test_pickup_at_the_last_minute(self):
        play = self.held(4)
        play.on_by_steps(721 + 10080)
        self.assertEqual(play.do("pickup", 4), [0])
        self.assertEqual(play.on(721 + 10081), [10802, 0])

    def test_items_at_one_time_by_their_numbers(self):
        play = self.held(30, 20, 10)
        play.on_by_steps(721 + 10081)
        self.assertEqual(play.bin_of(1), [10, 20, 30])

    def test_runs_go_before_items_are_sent_back(self):
        play = self.held(4)
        play.trip(3, 1, 0, 10801 % 1440, 1)
        play.on_by_steps(10802)
        self.assertEqual(play.bin_of(1), [4])
        self.assertEqual(play.on(10801 + 81), [10882, 1])
        self.assertEqual(play.item(4).place, (1, 2, 7))

    def test_runs_come_before_items_are_sent_back(self):
        play = self.held(4)
        play.trip(3, 3, 1, (10801 - 5) % 1440, 5)
        play.post(3, 500, 1)
        play.on_by_steps(10802 - 1440)
        play.post(3, 501, 1)
        play.on_by_steps(10802)
        self.assertEqual(play.bin_of(1), [500, 501, 4])

    def test_it_goes_back_by_runs_to_its_home(self):
        play = self.held(4)
        self.assertEqual(play.on_by_steps(10802 + 1440), 3)
        self.assertEqual(play.bin_of(0), [4])
        self.assertEqual(play.messages()[-2:], [(1, 7 * 1440 + 800, 4, 2), (0, 7 * 1440 + 860, 4, 1)])

    def test_destroyed_behind_a_second_time_at_a_counter(self):
        play = self.held(4)
        play.on_by_steps(12000)
        for attempt in range(2):
            play.sort_out(0)
            play.do("hand", 4, 1)
        self.assertEqual(play.item(4).place, (4, 0, 0))
        self.assertEqual(play.on_by_steps(12000 + 10080), 0)
        self.assertEqual(play.on(12000 + 10081), [22081, 1])
        self.assertEqual(play.item(4).place, (5, 2, 0))
        self.assertEqual(play.messages()[-1], (0, 22080, 4, 8))
        self.assertEqual(play.bin_of(0), [])


if __name__ == "__main__":
    unittest.main()
