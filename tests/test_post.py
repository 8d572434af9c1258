"""The call post, and the earliest way that its promise is."""

import itertools
import random
import unittest

from postalhouse.house import answer_call
from postalhouse.state import House
from postalhouse.ways import earliest
from tests.helper import HUGE, HouseCase, Play

POST = (0, 5, 1, 4, 2, 1, 100, 30, 2)


def twenty_items():
    play = Play()
    for number in range(1, 21):
        play.post(0, number, 1)
    return play


class Post(HouseCase):
    def test_each_number_has_its_range(self):
        self.assert_range(Play, "post", (1, 5, 2, 4, 2, 1, 100, 30, 2), 0, 0, 3)
        self.assert_range(Play, "post", POST, 1, 1, 999)
        self.assert_range(Play, "post", (1, 5, 2, 4, 2, 1, 100, 30, 2), 2, 0, 3)
        self.assert_range(Play, "post", POST, 3, 0, 8)
        self.assert_range(Play, "post", POST, 4, 0, 8)
        self.assert_range(Play, "post", POST, 5, 0, 3)
        self.assert_range(Play, "post", POST, 6, 0, 100000)
        self.assert_range(Play, "post", POST, 7, 0, 100000)
        self.assert_range(Play, "post", POST, 8, 0, 1000)

    def test_it_goes_to_another_office(self):
        for office in range(4):
            self.assert_refused(Play(), -1, "post", office, 5, office, 4, 2, 1, 100, 30, 2)

    def test_a_number_is_taken_once(self):
        play = Play()
        play.post(*POST)
        self.assert_refused(play, -2, "post", 3, 5, 2, 0, 0, 0, 0, 0, 0)

    def test_there_are_20_at_most(self):
        play = twenty_items()
        self.assertEqual(len(play.bin_of(0)), 20)
        self.assert_refused(play, -3, "post", 0, 21, 1, 0, 0, 0, 0, 0, 0)

    def test_refusals_in_their_order(self):
        self.assert_refused(twenty_items(), -1, "post", 0, 20, 0, 0, 0, 0, 0, 0, 0)
        self.assert_refused(twenty_items(), -1, "post", 0, 20, 1, 0, 0, 0, 0, 0, HUGE)
        self.assert_refused(twenty_items(), -2, "post", 0, 20, 1, 0, 0, 0, 0, 0, 0)

    def test_a_number_stays_taken_when_its_item_has_ended(self):
        play = Play()
        play.trip(1, 0, 1, 600, 120)
        for number in range(1, 21):
            play.post(0, number, 1)
        play.on(721)
        play.sort_out(1)
        play.do("hand", 1, 0)
        self.assert_refused(play, -2, "post", 0, 1, 1, 0, 0, 0, 0, 0, 0)
        self.assert_refused(play, -3, "post", 0, 21, 1, 0, 0, 0, 0, 0, 0)

    def test_it_is_in_the_bin_behind_the_others_and_told(self):
        play = Play()
        play.post(2, 9, 1)
        play.on(50)
        play.post(2, 4, 0)
        play.post(1, 6, 0)
        self.assertEqual(play.bin_of(2), [9, 4])
        self.assertEqual(play.bin_of(1), [6])
        self.assertEqual(play.messages(), [(2, 0, 9, 0), (2, 50, 4, 0), (1, 50, 6, 0)])
        self.assertEqual([list(known) for known in play.house().known], [[], [2], [0, 1], []])

    def test_the_office_takes_the_fee(self):
        play = Play()
        play.post(2, 9, 1, cash=500, value=600, fee=1000)
        play.post(2, 8, 1, fee=1)
        self.assertEqual(play.house().cash, [0, 0, 1001, 0, 0])
        self.assertEqual(play.house().came_in, 1001)
        self.assertEqual(play.house().went_out, 0)

    def test_what_was_posted(self):
        play = Play()
        play.post(*POST)
        posted = play.item(5)
        self.assertEqual((posted.origin, posted.number, posted.to, posted.point, posted.home), (0, 5, 1, 4, 2))
        self.assertEqual((posted.rank, posted.value, posted.cash, posted.promise), (1, 100, 30, None))
        self.assertEqual((posted.attempts, posted.goes_back, posted.lost), (0, False, False))


class Earliest(unittest.TestCase):
    """The promise tells when one would be there; by which first run shows in what leaves first."""

    def promise(self, trips, origin, to, now=0):
        play = Play()
        for trip in trips:
            play.trip(*trip)
        play.on_by_steps(now)
        answer = play.post(origin, 1, to)
        self.assertEqual(answer[0], 0)
        return answer[1]

    def leaves_by(self, trips, origin, to):
        """By which trip and day an item posted now leaves first."""
        play = Play()
        for trip in trips:
            play.trip(*trip)
        play.post(origin, 1, to)
        play.on(2880)
        taken = [run for run in play.house().runs.values() if run.load]
        first = min(taken, key=lambda run: run.goes)
        return (first.trip.number, first.day)

    def test_no_way(self):
        self.assertEqual(self.promise([], 0, 1), -1)
        self.assertEqual(self.promise([(1, 1, 0, 600, 120)], 0, 1), -1)
        self.assertEqual(self.promise([(1, 0, 2, 600, 120)], 0, 1), -1)

    def test_a_run_at_the_present_counts_and_one_before_it_does_not(self):
        self.assertEqual(self.promise([(1, 0, 1, 600, 120)], 0, 1, 600), 720)
        self.assertEqual(self.promise([(1, 0, 1, 600, 120)], 0, 1, 601), 2160)

    def test_a_change_at_the_very_minute(self):
        self.assertEqual(self.promise([(1, 0, 1, 100, 50), (2, 1, 2, 150, 10)], 0, 2), 160)
        self.assertEqual(self.promise([(1, 0, 1, 100, 50), (2, 1, 2, 149, 10)], 0, 2), 1440 + 159)

    def test_two_runs_may_be_earlier_than_one(self):
        trips = [(1, 0, 2, 100, 1000), (2, 0, 1, 100, 50), (3, 1, 2, 200, 100)]
        self.assertEqual(self.promise(trips, 0, 2), 300)
        self.assertEqual(self.leaves_by(trips, 0, 2), (2, 0))

    def test_three_runs_whatever_order_their_trips_were_told_in(self):
        legs = [(1, 0, 1, 10, 10), (2, 1, 2, 30, 10), (3, 2, 3, 50, 10)]
        for trips in itertools.permutations(legs):
            self.assertEqual(self.promise(trips, 0, 3), 60)

    def test_a_better_way_to_the_middle_is_used_in_the_third_round(self):
        trips = [(1, 0, 1, 0, 100), (2, 0, 3, 5, 5), (3, 3, 1, 20, 60), (4, 1, 2, 90, 110), (5, 1, 2, 100, 110)]
        self.assertEqual(self.promise(trips, 0, 2), 200)
        self.assertEqual(self.leaves_by(trips, 0, 2), (2, 0))

    def test_a_longer_run_that_was_told_first_gives_way(self):
        trips = [(1, 0, 1, 100, 500), (2, 0, 1, 200, 100)]
        self.assertEqual(self.promise(trips, 0, 1), 300)
        self.assertEqual(self.leaves_by(trips, 0, 1), (2, 0))

    def test_of_two_that_come_at_one_time_the_one_told_first(self):
        one = (9, 0, 1, 200, 100)
        two = (1, 0, 1, 250, 50)
        self.assertEqual(self.leaves_by([one, two], 0, 1), (9, 0))
        self.assertEqual(self.leaves_by([two, one], 0, 1), (1, 0))

    def test_what_is_known_in_a_round_is_used_from_the_next_one_on(self):
        trips = [(1, 0, 1, 10, 10), (2, 1, 2, 30, 70), (3, 0, 2, 50, 50)]
        self.assertEqual(self.promise(trips, 0, 2), 100)
        self.assertEqual(self.leaves_by(trips, 0, 2), (3, 0))

    def test_of_two_days_the_earlier_one(self):
        self.assertEqual(self.leaves_by([(1, 0, 1, 1000, 2880)], 0, 1), (1, 0))

    def test_the_way_is_the_best_there_is(self):
        source = random.Random(11)
        for attempt in range(60):
            house = House()
            for number in range(1, source.randint(2, 7)):
                origin = source.randrange(4)
                to = (origin + source.randint(1, 3)) % 4
                answer_call(house, 0, [number, origin, to, source.randrange(1440), source.randint(1, 2880), 5])
                answer_call(house, 1, [number, source.randrange(3)])
            answer_call(house, 3, [source.randrange(2881)])
            office = source.randrange(4)
            known = earliest(house, office, house.now)
            times = {other: known[other][0] for other in known}
            self.assertEqual(times, settled_times(house, office))


def settled_times(house, office):
    """The earliest times, found by going through all runs until nothing changes."""
    times = {office: house.now}
    changed = True
    while changed:
        changed = False
        for run in house.runs.values():
            usable = run.goes >= house.now and not run.cancelled
            if usable and times.get(run.trip.origin, HUGE) <= run.goes and run.comes < times.get(run.trip.to, HUGE):
                times[run.trip.to] = run.comes
                changed = True
    return times


if __name__ == "__main__":
    unittest.main()
