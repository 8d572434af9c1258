"""The calls trip and cancel, and the runs of trips."""

import unittest

from tests.helper import HUGE, HouseCase, Play

TRIP = (7, 0, 1, 600, 120, 5)
LAST_RUN = 20 * 1440 + 600


def six_trips():
    play = Play()
    for number in range(1, 7):
        play.trip(number, 0, 1, 600, 120)
    return play


class Trip(HouseCase):
    def test_answers_how_many_trips_there_are(self):
        play = Play()
        for count, number in enumerate((40, 7, 99, 1, 50, 3), start=1):
            self.assertEqual(play.trip(number, count % 4, (count + 1) % 4, 600, 120), [count])

    def test_each_number_has_its_range(self):
        self.assert_range(Play, "trip", TRIP, 0, 1, 99)
        self.assert_range(Play, "trip", (7, 1, 2, 600, 120, 5), 1, 0, 3)
        self.assert_range(Play, "trip", (7, 1, 2, 600, 120, 5), 2, 0, 3)
        self.assert_range(Play, "trip", TRIP, 3, 0, 1439)
        self.assert_range(Play, "trip", TRIP, 4, 1, 2880)
        self.assert_range(Play, "trip", TRIP, 5, 1, 20)

    def test_it_goes_to_another_office(self):
        for office in range(4):
            self.assert_refused(Play(), -1, "trip", 7, office, office, 600, 120, 5)

    def test_a_number_is_taken_once(self):
        play = Play()
        play.trip(7, 0, 1, 600, 120)
        self.assert_refused(play, -2, "trip", 7, 2, 3, 0, 1, 1)

    def test_there_are_six_at_most(self):
        self.assert_refused(six_trips(), -3, "trip", 7, 0, 1, 600, 120, 5)

    def test_refusals_in_their_order(self):
        self.assert_refused(six_trips(), -1, "trip", 6, 0, 0, 600, 120, 5)
        self.assert_refused(six_trips(), -1, "trip", 6, 0, 1, 600, 0, 5)
        self.assert_refused(six_trips(), -2, "trip", 6, 0, 1, 600, 120, 5)

    def test_runs_go_on_the_days_0_to_20(self):
        play = Play()
        play.trip(1, 0, 1, 600, 120)
        self.assertEqual(play.post(0, 1, 1), [0, 720])
        play.on_by_steps(LAST_RUN)
        self.assertEqual(play.post(0, 2, 1), [0, LAST_RUN + 120])
        play.on(LAST_RUN + 1)
        self.assertEqual(play.post(0, 3, 1), [0, -1])
        self.assertEqual(play.on_by_steps(LAST_RUN + 1440 + 1000), 1)
        self.assertEqual(play.bin_of(0), [3])

    def test_a_run_before_the_present_when_its_trip_was_told_never_goes(self):
        play = Play()
        play.on(601)
        play.trip(1, 0, 1, 600, 120)
        self.assertEqual(play.post(0, 1, 1), [0, 1440 + 720])
        self.assertEqual(play.on(1440 + 600), [2040, 0])
        self.assertEqual(play.on(1440 + 601), [2041, 1])

    def test_a_run_at_the_present_when_its_trip_was_told_goes(self):
        play = Play()
        play.on(600)
        play.trip(1, 0, 1, 600, 120)
        self.assertEqual(play.post(0, 1, 1), [0, 720])
        self.assertEqual(play.on(601), [601, 1])

    def test_ends_of_minutes_and_takes(self):
        play = Play()
        play.trip(1, 0, 1, 0, 1)
        play.trip(2, 1, 2, 1439, 2880)
        self.assertEqual(play.post(0, 1, 1), [0, 1])
        self.assertEqual(play.post(1, 2, 2), [0, 1439 + 2880])
        self.assertEqual(play.on(2), [2, 2])
        self.assertEqual(play.on(1439), [1439, 0])
        self.assertEqual(play.on(4319), [4319, 1])
        self.assertEqual(play.on(4320), [4320, 1])


class Cancel(HouseCase):
    def make(self):
        play = Play()
        play.trip(7, 0, 1, 600, 120)
        play.trip(3, 1, 2, 600, 120)
        return play

    def test_answers_how_many_runs_are_cancelled_in_all(self):
        play = self.make()
        self.assertEqual(play.do("cancel", 7, 4), [1])
        self.assertEqual(play.do("cancel", 3, 4), [2])
        self.assertEqual(play.do("cancel", 7, 0), [3])

    def test_there_is_no_such_trip(self):
        for number in (1, 0, -1, 100, HUGE, -HUGE):
            self.assert_refused(self.make(), -5, "cancel", number, 4)

    def test_days_are_0_to_20(self):
        self.assert_range(self.make, "cancel", (7, 4), 1, 0, 20)

    def test_no_trip_comes_before_no_day(self):
        self.assert_refused(self.make(), -5, "cancel", 1, 21)

    def test_cancelled_already(self):
        play = self.make()
        play.do("cancel", 7, 4)
        self.assert_refused(play, -6, "cancel", 7, 4)

    def test_a_run_that_has_gone(self):
        play = self.make()
        play.post(0, 1, 1)
        play.on(601)
        self.assert_refused(play, -6, "cancel", 7, 0)
        self.assert_refused(play, -6, "cancel", 3, 0)
        self.assertEqual(play.do("cancel", 7, 1), [1])

    def test_a_run_that_would_have_gone_before_the_present(self):
        play = Play()
        play.on(601)
        play.trip(7, 0, 1, 600, 120)
        self.assert_refused(play, -6, "cancel", 7, 0)

    def test_a_cancelled_run_stays_cancelled_behind_its_time(self):
        play = self.make()
        play.do("cancel", 7, 0)
        play.on(2000)
        self.assert_refused(play, -6, "cancel", 7, 0)
        self.assertEqual(play.do("cancel", 7, 20), [2])

    def test_a_run_at_the_present_can_be_cancelled(self):
        play = self.make()
        play.on(600)
        self.assertEqual(play.do("cancel", 7, 0), [1])

    def test_a_cancelled_run_does_not_go(self):
        play = self.make()
        play.do("cancel", 7, 0)
        self.assertEqual(play.post(0, 1, 1), [0, 2160])
        self.assertEqual(play.on(2040), [2040, 0])
        self.assertEqual(play.on(2041), [2041, 1])

    def test_a_run_cancelled_behind_the_post_leaves_the_promise(self):
        play = self.make()
        play.post(0, 1, 1)
        play.do("cancel", 7, 0)
        self.assertEqual(play.item(1).promise, 720)
        self.assertEqual(play.on(1000), [1000, 0])


if __name__ == "__main__":
    unittest.main()
