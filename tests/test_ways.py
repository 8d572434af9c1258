"""The calls way and latest."""

import itertools
import random
import unittest

from tests.helper import HUGE, HouseCase, Play, linked_play


def chained_play():
    """Trips 1 (0 to 1, 600 to 700), 2 (1 to 2, 700 to 800) and 3 (2 to 3, 801 to 900)."""
    play = Play()
    play.trip(1, 0, 1, 600, 100)
    play.trip(2, 1, 2, 700, 100)
    play.trip(3, 2, 3, 801, 99)
    return play


class TellWay(HouseCase):
    def test_without_a_run(self):
        for time in (0, 5, 40000):
            for office in range(4):
                self.assert_asks(Play(), [time, -1, -1], "way", office, time, office)
                self.assert_asks(linked_play(), [time, -1, -1], "way", office, time, office)

    def test_without_a_run_before_the_present(self):
        play = linked_play()
        play.on(1000)
        self.assert_asks(play, [3, -1, -1], "way", 0, 3, 0)

    def test_one_run(self):
        play = linked_play()
        self.assert_asks(play, [720, 1, 0], "way", 0, 0, 1)
        self.assert_asks(play, [860, 2, 0], "way", 1, 0, 0)

    def test_the_edge_when_it_goes(self):
        play = linked_play()
        self.assert_asks(play, [720, 1, 0], "way", 0, 600, 1)
        self.assert_asks(play, [2160, 1, 1], "way", 0, 601, 1)

    def test_the_last_day(self):
        play = linked_play()
        last = 20 * 1440 + 600
        self.assert_asks(play, [last + 120, 1, 20], "way", 0, last, 1)
        self.assert_refused(play, -8, "way", 0, last + 1, 1)

    def test_several_runs(self):
        play = chained_play()
        self.assert_asks(play, [800, 1, 0], "way", 0, 0, 2)
        self.assert_asks(play, [900, 1, 0], "way", 0, 600, 3)
        self.assert_asks(play, [2340, 2, 1], "way", 1, 701, 3)
        self.assert_asks(play, [900, 3, 0], "way", 2, 801, 3)

    def test_a_connection_that_is_missed_by_a_minute(self):
        play = Play()
        play.trip(1, 0, 1, 600, 101)
        play.trip(2, 1, 2, 700, 100)
        self.assert_asks(play, [2240, 1, 0], "way", 0, 0, 2)
        self.assert_asks(play, [800, 2, 0], "way", 1, 0, 2)

    def test_around_is_faster(self):
        play = linked_play()
        play.trip(3, 0, 2, 100, 50)
        play.trip(4, 2, 1, 150, 50)
        self.assert_asks(play, [200, 3, 0], "way", 0, 0, 1)
        self.assert_asks(play, [720, 1, 0], "way", 0, 101, 1)

    def test_at_one_time_what_was_found_first_counts(self):
        play = linked_play()
        play.trip(3, 0, 1, 500, 220)
        self.assert_asks(play, [720, 1, 0], "way", 0, 0, 1)
        play = Play()
        play.trip(3, 0, 1, 500, 220)
        play.trip(1, 0, 1, 600, 120)
        self.assert_asks(play, [720, 3, 0], "way", 0, 0, 1)

    def test_fewer_runs_count_first(self):
        play = Play()
        play.trip(1, 0, 2, 100, 50)
        play.trip(2, 2, 1, 150, 50)
        play.trip(3, 0, 1, 150, 50)
        self.assert_asks(play, [200, 3, 0], "way", 0, 0, 1)

    def test_there_is_no_way(self):
        self.assert_refused(Play(), -8, "way", 0, 0, 1)
        self.assert_refused(linked_play(), -8, "way", 0, 0, 2)
        self.assert_refused(linked_play(), -8, "way", 3, 0, 0)
        self.assert_refused(linked_play(), -8, "way", 0, 40000, 1)

    def test_cancelled_runs_are_left_out(self):
        play = linked_play()
        play.do("cancel", 1, 0)
        self.assert_asks(play, [2160, 1, 1], "way", 0, 0, 1)

    def test_runs_that_have_gone_are_left_out(self):
        play = linked_play()
        play.on(600)
        self.assert_asks(play, [720, 1, 0], "way", 0, 0, 1)
        play.on(601)
        self.assert_asks(play, [2160, 1, 1], "way", 0, 0, 1)

    def test_runs_before_the_present_are_left_out(self):
        play = Play()
        play.on(1000)
        play.trip(1, 0, 1, 999, 10)
        play.trip(2, 0, 2, 1000, 10)
        self.assert_asks(play, [1440 + 1009, 1, 1], "way", 0, 0, 1)
        self.assert_asks(play, [1010, 2, 0], "way", 0, 0, 2)

    def test_the_ranges(self):
        make = linked_play
        for place, low, high in ((0, -1, 4), (1, -1, 40001), (2, -1, 4)):
            for number in (low, high, HUGE, -HUGE):
                given = [1, 0, 1]
                given[place] = number
                self.assert_refused(make(), -1, "way", *given)
        self.assert_range(make, "way", (1, 0, 1), 1, 0, 40000)

    def test_a_number_out_of_its_range_counts_before_a_way_that_is_not_there(self):
        self.assert_refused(Play(), -1, "way", 0, 40001, 1)
        self.assert_refused(Play(), -8, "way", 0, 40000, 1)


class TellLatest(HouseCase):
    def test_without_a_run(self):
        for time in (0, 5, 40000):
            for office in range(4):
                self.assert_asks(Play(), [time], "latest", office, office, time)
                self.assert_asks(linked_play(), [time], "latest", office, office, time)

    def test_one_run(self):
        play = linked_play()
        self.assert_asks(play, [600], "latest", 0, 1, 720)
        self.assert_asks(play, [600], "latest", 0, 1, 2159)
        self.assert_asks(play, [2040], "latest", 0, 1, 2160)
        self.assert_asks(play, [800], "latest", 1, 0, 860)
        self.assert_asks(play, [20 * 1440 + 600], "latest", 0, 1, 40000)

    def test_a_run_that_goes_at_0(self):
        play = Play()
        play.trip(1, 0, 1, 0, 1)
        self.assert_asks(play, [0], "latest", 0, 1, 1)
        self.assert_refused(play, -8, "latest", 0, 1, 0)

    def test_several_runs(self):
        play = chained_play()
        self.assert_asks(play, [600], "latest", 0, 2, 800)
        self.assert_asks(play, [600], "latest", 0, 3, 900)
        self.assert_asks(play, [600], "latest", 0, 3, 2339)
        self.assert_asks(play, [2040], "latest", 0, 3, 2340)
        self.assert_asks(play, [700], "latest", 1, 3, 900)
        self.assert_asks(play, [801], "latest", 2, 3, 900)

    def test_a_connection_that_is_missed_by_a_minute(self):
        play = Play()
        play.trip(1, 0, 1, 600, 101)
        play.trip(2, 1, 2, 700, 100)
        self.assert_refused(play, -8, "latest", 0, 2, 800)
        self.assert_refused(play, -8, "latest", 0, 2, 2239)
        self.assert_asks(play, [600], "latest", 0, 2, 2240)

    def test_the_trip_that_goes_last_and_not_the_one_that_comes_first(self):
        play = linked_play()
        play.trip(3, 0, 1, 650, 60)
        play.trip(4, 0, 1, 640, 20)
        self.assert_asks(play, [650], "latest", 0, 1, 720)
        self.assert_asks(play, [650], "latest", 0, 1, 710)
        self.assert_asks(play, [640], "latest", 0, 1, 709)

    def test_around_leaves_later(self):
        play = linked_play()
        play.trip(3, 0, 2, 610, 20)
        play.trip(4, 2, 1, 630, 20)
        self.assert_asks(play, [610], "latest", 0, 1, 720)
        self.assert_asks(play, [610], "latest", 0, 1, 650)
        self.assert_refused(play, -8, "latest", 0, 1, 649)

    def test_there_is_none(self):
        self.assert_refused(Play(), -8, "latest", 0, 1, 40000)
        play = linked_play()
        self.assert_refused(play, -8, "latest", 0, 1, 719)
        self.assert_refused(play, -8, "latest", 0, 2, 40000)
        self.assert_refused(play, -8, "latest", 0, 1, 0)

    def test_cancelled_runs_are_left_out(self):
        play = linked_play()
        play.do("cancel", 1, 1)
        self.assert_asks(play, [600], "latest", 0, 1, 2160)
        play.do("cancel", 1, 0)
        self.assert_refused(play, -8, "latest", 0, 1, 2160)

    def test_runs_that_have_gone_are_left_out(self):
        play = linked_play()
        play.on(600)
        self.assert_asks(play, [600], "latest", 0, 1, 720)
        play.on(601)
        self.assert_refused(play, -8, "latest", 0, 1, 720)
        self.assert_asks(play, [720], "latest", 0, 0, 720)
        self.assert_asks(play, [5], "latest", 0, 0, 5)

    def test_runs_before_the_present_are_left_out(self):
        play = Play()
        play.on(1000)
        play.trip(1, 0, 1, 999, 10)
        play.trip(2, 0, 2, 1000, 10)
        self.assert_refused(play, -8, "latest", 0, 1, 1440)
        self.assert_asks(play, [1000], "latest", 0, 2, 1440)

    def test_the_ranges(self):
        for place, low, high in ((0, -1, 4), (1, -1, 4), (2, -1, 40001)):
            for number in (low, high, HUGE, -HUGE):
                given = [1, 1, 0]
                given[place] = number
                self.assert_refused(linked_play(), -1, "latest", *given)
        self.assert_range(linked_play, "latest", (1, 1, 0), 2, 0, 40000)

    def test_a_number_out_of_its_range_counts_before_a_way_that_is_not_there(self):
        self.assert_refused(Play(), -1, "latest", 0, 1, 40001)
        self.assert_refused(Play(), -1, "latest", 0, 4, 0)


class WayAndLatest(HouseCase):
    def random_play(self, source):
        play = Play()
        for number in range(1, 7):
            origin = source.randrange(4)
            to = (origin + source.randint(1, 3)) % 4
            play.trip(number, origin, to, source.randrange(1440), source.randint(1, 900))
        for turn in range(4):
            play.do("cancel", source.randint(1, 6), source.randint(0, 2))
        play.on(source.randint(0, 1500))
        return play

    def test_who_leaves_at_the_latest_is_there_in_time_and_who_leaves_later_is_not(self):
        source = random.Random(5)
        reached = 0
        for turn in range(25):
            play = self.random_play(source)
            for origin, to in itertools.permutations(range(4), 2):
                time = source.randint(0, 5000)
                latest = play.do("latest", origin, to, time)[0]
                # One leaves when a run goes, so a minute behind the latest is the first time that's too late.
                behind = play.do("way", origin, latest + 1 if latest >= 0 else 0, to)
                self.assertTrue(behind == [-8] or behind[0] > time)
                if latest >= 0:
                    reached += 1
                    self.assertLessEqual(play.do("way", origin, latest, to)[0], time)
        self.assertGreater(reached, 50)


if __name__ == "__main__":
    unittest.main()
