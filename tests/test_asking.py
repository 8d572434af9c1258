"""The calls item, office, said, knows, losses, orders and runs."""

import unittest

from tests.helper import HUGE, HouseCase, Play, linked_play


def at_the_office():
    """Items 1, 2 and 3 for points 4, 1 and 0 of office 1, come at 720."""
    play = linked_play()
    play.post(0, 1, 1, point=4, cash=30)
    play.post(0, 2, 1, point=1)
    play.post(0, 3, 1, point=0, home=8)
    play.on(721)
    return play


def on_the_round():
    """The three of them out on the round: 3, 2, 1."""
    play = at_the_office()
    play.sort_out(1)
    return play


def held_at_the_counter():
    """The three of them held at the counter, 3 first, then 2, then 1."""
    play = at_the_office()
    for attempt in range(2):
        play.sort_out(1)
        for number in (3, 2, 1):
            play.do("hand", number, 1)
    return play


class TellItem(HouseCase):
    def test_in_the_bin_where_it_was_posted(self):
        play = linked_play()
        play.post(0, 1, 1)
        self.assert_asks(play, [0, 0, 0, 0, 720, 0, 0, 0], "item", 1)

    def test_in_another_bin(self):
        self.assert_asks(at_the_office(), [0, 0, 1, 0, 720, 0, 0, 0], "item", 1)

    def test_without_a_promise(self):
        play = Play()
        play.post(3, 999, 1)
        self.assert_asks(play, [0, 0, 3, 0, -1, 0, 0, 0], "item", 999)

    def test_the_promise_stays(self):
        play = linked_play()
        play.post(0, 1, 1)
        play.do("cancel", 1, 0)
        self.assert_asks(play, [0, 0, 0, 0, 720, 0, 0, 0], "item", 1)
        play.on(2880)
        self.assert_asks(play, [0, 0, 1, 0, 720, 0, 0, 0], "item", 1)

    def test_on_a_run(self):
        play = linked_play()
        play.trip(77, 2, 3, 5, 100)
        play.post(2, 1, 3)
        play.on(6)
        self.assert_asks(play, [0, 1, 77, 0, 105, 0, 0, 0], "item", 1)
        play.post(2, 2, 3)
        play.on(1446)
        self.assert_asks(play, [0, 1, 77, 1, 1545, 0, 0, 0], "item", 2)

    def test_on_a_tray(self):
        play = at_the_office()
        play.do("pass_items", 1, 2)
        self.assert_asks(play, [0, 2, 1, 0, 720, 0, 0, 0], "item", 1)
        self.assert_asks(play, [0, 0, 1, 0, 720, 0, 0, 0], "item", 3)
        play.do("pass_items", 1, 2)
        self.assert_asks(play, [0, 2, 1, 0, 720, 0, 0, 0], "item", 1)

    def test_with_a_round(self):
        self.assert_asks(on_the_round(), [0, 3, 1, 0, 720, 0, 0, 0], "item", 1)

    def test_an_attempt(self):
        play = on_the_round()
        play.do("hand", 3, 1)
        self.assert_asks(play, [0, 0, 1, 0, 720, 0, 0, 1], "item", 3)

    def test_at_a_counter(self):
        self.assert_asks(held_at_the_counter(), [0, 4, 1, 0, 720, 0, 0, 2], "item", 2)

    def test_going_back(self):
        play = on_the_round()
        play.do("hand", 3, 2)
        self.assert_asks(play, [0, 0, 1, 0, 720, 0, 1, 0], "item", 3)

    def test_sent_back_from_the_counter_it_has_no_attempts(self):
        play = held_at_the_counter()
        play.on_by_steps(721 + 10080 + 1)
        self.assert_asks(play, [0, 0, 1, 0, 720, 0, 1, 0], "item", 2)

    def test_delivered(self):
        play = on_the_round()
        play.do("hand", 3, 0)
        self.assert_asks(play, [0, 5, 0, 1, 720, 0, 0, 0], "item", 3)
        play = held_at_the_counter()
        play.do("pickup", 2)
        self.assert_asks(play, [0, 5, 0, 1, 720, 0, 0, 2], "item", 2)

    def test_returned_and_destroyed(self):
        play = on_the_round()
        play.do("hand", 3, 2)
        play.do("hand", 2, 2)
        play.on(861)
        play.sort_out(0)
        play.do("hand", 2, 0)
        play.do("hand", 3, 2)
        self.assert_asks(play, [0, 5, 1, 0, 720, 0, 1, 0], "item", 2)
        self.assert_asks(play, [0, 5, 2, 0, 720, 0, 1, 0], "item", 3)

    def test_lost_before_anybody_notices(self):
        play = at_the_office()
        play.do("lose", 1, 0)
        self.assert_asks(play, [0, 0, 1, 0, 720, 1, 0, 0], "item", 1)
        play = linked_play()
        play.post(0, 1, 1)
        play.on(601)
        play.do("lose", 1, 1)
        self.assert_asks(play, [0, 1, 1, 0, 720, 1, 0, 0], "item", 1)

    def test_missing(self):
        play = at_the_office()
        play.do("lose", 1, 0)
        play.do("check", 1)
        self.assert_asks(play, [0, 6, 1, 0, 720, 1, 0, 0], "item", 1)
        for broken, party in ((0, 0), (1, 4)):
            play = linked_play()
            play.post(0, 1, 1)
            play.on(601)
            play.do("lose", 1, broken)
            play.on(721)
            self.assert_asks(play, [0, 6, party, 0, 720, 1, 0, 0], "item", 1)

    def test_found(self):
        play = at_the_office()
        play.do("lose", 1, 0)
        play.do("check", 1)
        play.do("found", 2, 1)
        self.assert_asks(play, [0, 0, 2, 0, 720, 0, 0, 0], "item", 1)

    def test_there_is_none(self):
        for number in (0, 4, -1, 1000, HUGE, -HUGE):
            self.assert_refused(at_the_office(), -5, "item", number)


class TellOffice(HouseCase):
    def test_with_nothing_there(self):
        for office in range(4):
            self.assert_asks(Play(), [0, 0, 0, 0, 0], "office", office)

    def test_the_bin(self):
        play = at_the_office()
        self.assert_asks(play, [0, 3, 1, 2, 3, 0, 0, 0], "office", 1)
        self.assert_asks(play, [0, 0, 0, 0, 0], "office", 0)

    def test_the_bin_s_order(self):
        play = at_the_office()
        play.do("lose", 1, 0)
        play.do("found", 1, 1)
        self.assert_asks(play, [0, 3, 2, 3, 1, 0, 0, 0], "office", 1)

    def test_a_lost_item_stays_there_until_it_is_missing(self):
        play = at_the_office()
        play.do("lose", 2, 0)
        self.assert_asks(play, [0, 3, 1, 2, 3, 0, 0, 0], "office", 1)
        play.do("check", 1)
        self.assert_asks(play, [0, 2, 1, 3, 0, 0, 0], "office", 1)

    def test_the_tray_behind_each_pass(self):
        play = at_the_office()
        play.do("pass_items", 1, 2)
        self.assert_asks(play, [1, 1, 3, 2, 1, 2, 0, 0], "office", 1)
        play.do("pass_items", 1, 2)
        self.assert_asks(play, [2, 1, 3, 2, 2, 1, 0, 0], "office", 1)

    def test_the_machine_stops(self):
        play = at_the_office()
        play.do("pass_items", 1, 3)
        self.assert_asks(play, [1, 0, 3, 3, 1, 2, 0, 0], "office", 1)
        play.do("pass_items", 1, 1)
        self.assert_asks(play, [2, 2, 1, 2, 1, 3, 0, 0], "office", 1)

    def test_none_went_through(self):
        play = at_the_office()
        play.do("pass_items", 1, 3)
        play.do("pass_items", 1, 0)
        self.assert_asks(play, [0, 3, 3, 1, 2, 0, 0, 0], "office", 1)

    def test_the_round(self):
        play = on_the_round()
        self.assert_asks(play, [0, 0, 0, 3, 3, 2, 1, 0], "office", 1)
        play.do("hand", 3, 1)
        self.assert_asks(play, [0, 1, 3, 0, 2, 2, 1, 0], "office", 1)

    def test_the_counter_in_the_order_in_which_items_were_posted(self):
        play = held_at_the_counter()
        self.assert_asks(play, [0, 0, 0, 0, 3, 1, 2, 3], "office", 1)
        play.do("pickup", 2)
        self.assert_asks(play, [0, 0, 0, 0, 2, 1, 3], "office", 1)
        self.assert_asks(play, [0, 0, 0, 0, 0], "office", 0)

    def test_the_counter_goes_by_posting_and_not_by_numbers(self):
        play = linked_play()
        play.post(0, 9, 1, point=0)
        play.post(0, 4, 1, point=1)
        play.on(721)
        for attempt in range(2):
            play.sort_out(1)
            play.do("hand", 9, 1)
            play.do("hand", 4, 1)
        self.assert_asks(play, [0, 0, 0, 0, 2, 9, 4], "office", 1)

    def test_all_four_at_once(self):
        play = at_the_office()
        for attempt in range(2):
            play.do("pass_items", 1, 1)
            play.do("pass_items", 1, 1)
            play.do("out", 1)
            play.do("hand", play.round_of(1)[0], 1)
            if attempt == 0:
                # Item 1 is the bin's first again.
                play.do("lose", 2, 0)
                play.do("found", 1, 2)
                play.do("lose", 3, 0)
                play.do("found", 1, 3)
        play.do("pass_items", 1, 1)
        play.do("pass_items", 1, 1)
        play.do("out", 1)
        play.post(1, 5, 0)
        play.do("pass_items", 1, 1)
        self.assert_asks(play, [1, 1, 5, 1, 3, 1, 2, 1, 1], "office", 1)

    def test_the_range(self):
        self.assert_range(at_the_office, "office", (0,), 0, 0, 3)


class TellSaid(HouseCase):
    def test_the_last_message_that_the_office_knows(self):
        play = at_the_office()
        self.assert_asks(play, [2, 2, 0, 600], "said", 0, 1)
        self.assert_asks(play, [1, 1, 1, 720], "said", 1, 1)

    def test_none(self):
        self.assert_asks(at_the_office(), [0], "said", 2, 1)

    def test_told_to_it(self):
        play = at_the_office()
        play.do("tell", 6, 0)
        self.assert_asks(play, [3, 1, 1, 720], "said", 0, 1)
        play.do("tell", 6, 0)
        self.assert_asks(play, [3, 1, 1, 720], "said", 0, 1)
        self.assert_asks(play, [2, 2, 0, 600], "said", 0, 2)

    def test_told_last_is_not_known_last(self):
        play = at_the_office()
        play.do("tell", 0, 1)
        self.assert_asks(play, [2, 1, 1, 720], "said", 1, 1)
        play.do("tell", 6, 2)
        play.do("tell", 3, 2)
        self.assert_asks(play, [2, 1, 1, 720], "said", 2, 1)

    def test_of_one_time_the_greatest_number(self):
        play = on_the_round()
        play.do("hand", 3, 0)
        play.do("hand", 2, 0)
        play.do("hand", 1, 0)
        # Delivered and ordered at one time.
        self.assert_asks(play, [4, 11, 1, 721], "said", 1, 1)
        self.assert_asks(play, [3, 6, 1, 721], "said", 1, 2)
        order = play.do("orders")[6]
        play.do("tell", order, 3)
        play.do("tell", order - 1, 3)
        self.assert_asks(play, [2, 11, 1, 721], "said", 3, 1)

    def test_who_told_it_is_another_one(self):
        play = at_the_office()
        play.do("lose", 1, 0)
        play.on(900)
        play.do("found", 3, 1)
        play.do("tell", 9, 2)
        self.assert_asks(play, [1, 10, 3, 900], "said", 2, 1)

    def test_at_time_0(self):
        play = linked_play()
        play.post(0, 1, 1)
        self.assert_asks(play, [1, 0, 0, 0], "said", 0, 1)

    def test_refusals_in_their_order(self):
        play = at_the_office()
        for office in (-1, 4, HUGE, -HUGE):
            self.assert_refused(play, -1, "said", office, 1)
            self.assert_refused(play, -1, "said", office, 77)
        for number in (0, 4, -1, 1000, HUGE, -HUGE):
            self.assert_refused(play, -5, "said", 3, number)


class TellKnown(HouseCase):
    def test_with_nothing_there(self):
        for office in range(4):
            self.assert_asks(Play(), [0, 0], "knows", office)

    def test_what_it_told(self):
        play = at_the_office()
        self.assert_asks(play, [6, 6, 0, 1, 2, 3, 4, 5], "knows", 0)
        self.assert_asks(play, [3, 3, 6, 7, 8], "knows", 1)
        self.assert_asks(play, [0, 0], "knows", 2)

    def test_by_when_it_came_to_know_them(self):
        play = at_the_office()
        for message in (7, 2, 7, 0, 2):
            play.do("tell", message, 2)
        self.assert_asks(play, [3, 3, 7, 2, 0], "knows", 2)
        play.do("tell", 4, 1)
        self.assert_asks(play, [4, 4, 6, 7, 8, 4], "knows", 1)
        play.do("pass_items", 1, 1)
        play.do("pass_items", 1, 1)
        play.do("out", 1)
        self.assert_asks(play, [5, 5, 6, 7, 8, 4, 9], "knows", 1)

    def test_the_last_20(self):
        play = linked_play()
        for number in range(1, 20):
            play.post(0, number, 1)
        self.assert_asks(play, [19, 19] + list(range(19)), "knows", 0)
        play.post(0, 20, 1)
        self.assert_asks(play, [20, 20] + list(range(20)), "knows", 0)
        play.on(601)
        self.assert_asks(play, [40, 20] + list(range(20, 40)), "knows", 0)
        play.do("tell", 0, 0)
        self.assert_asks(play, [40, 20] + list(range(20, 40)), "knows", 0)
        play.on(721)
        play.do("tell", 45, 0)
        self.assert_asks(play, [41, 20] + list(range(21, 40)) + [45], "knows", 0)
        play.do("tell", 41, 0)
        self.assert_asks(play, [42, 20] + list(range(22, 40)) + [45, 41], "knows", 0)

    def test_the_range(self):
        self.assert_range(at_the_office, "knows", (0,), 0, 0, 3)


class TellLosses(HouseCase):
    def test_with_nothing_there(self):
        self.assert_asks(Play(), [0, 0], "losses")

    def test_each_of_them(self):
        play = at_the_office()
        play.post(0, 6, 1)
        play.do("lose", 2, 0)
        play.on(2041)
        play.do("lose", 6, 1)
        self.assert_asks(play, [0, 0], "losses")
        play.do("check", 1)
        self.assert_asks(play, [1, 5, 2, 1, 2041, 0, 0], "losses")
        play.on(2161)
        self.assert_asks(play, [2, 10, 2, 1, 2041, 0, 0, 6, 4, 2160, 0, 0], "losses")
        play.do("claim", 6)
        self.assert_asks(play, [2, 10, 2, 1, 2041, 0, 0, 6, 4, 2160, 0, 1], "losses")
        play.do("found", 3, 2)
        self.assert_asks(play, [2, 10, 2, 1, 2041, 1, 0, 6, 4, 2160, 0, 1], "losses")
        play.do("found", 3, 6)
        self.assert_asks(play, [2, 10, 2, 1, 2041, 1, 0, 6, 4, 2160, 1, 1], "losses")

    def test_one_item_twice(self):
        play = at_the_office()
        for office in (1, 3):
            play.do("lose", 2, 0)
            play.do("check", office)
            play.do("found", 3, 2)
        self.assert_asks(play, [2, 10, 2, 1, 721, 1, 0, 2, 3, 721, 1, 0], "losses")


class TellOrders(HouseCase):
    def test_with_nothing_there(self):
        self.assert_asks(Play(), [0, 0], "orders")

    def test_each_of_them(self):
        play = on_the_round()
        play.do("hand", 3, 0)
        play.do("hand", 2, 0)
        self.assert_asks(play, [0, 0], "orders")
        play.do("hand", 1, 0)
        self.assert_asks(play, [1, 6, 1, 30, 1, 0, 15, 0], "orders")
        play.do("tell", 15, 0)
        play.do("payout", 0)
        self.assert_asks(play, [1, 6, 1, 30, 1, 0, 15, 1], "orders")

    def test_several(self):
        play = Play()
        play.trip(1, 2, 3, 0, 10)
        play.trip(2, 3, 2, 0, 10)
        play.post(2, 5, 3, cash=100000)
        play.post(3, 4, 2, cash=1)
        play.on(11)
        play.sort_out(3)
        play.sort_out(2)
        play.do("hand", 5, 0)
        play.do("hand", 4, 0)
        self.assert_asks(play, [2, 12, 5, 100000, 3, 2, 9, 0, 4, 1, 2, 3, 11, 0], "orders")
        play.do("tell", 11, 3)
        play.do("payout", 1)
        self.assert_asks(play, [2, 12, 5, 100000, 3, 2, 9, 0, 4, 1, 2, 3, 11, 1], "orders")


class TellRuns(HouseCase):
    def test_with_nothing_there(self):
        self.assert_asks(Play(), [0, 0], "runs")

    def test_without_items_nothing_is_under_way(self):
        play = linked_play()
        play.on(601)
        self.assert_asks(play, [0, 0], "runs")

    def test_under_way(self):
        play = linked_play()
        play.post(0, 1, 1)
        play.post(0, 2, 1)
        play.on(600)
        self.assert_asks(play, [0, 0], "runs")
        play.on(601)
        self.assert_asks(play, [1, 4, 1, 0, 720, 2], "runs")
        play.on(720)
        self.assert_asks(play, [1, 4, 1, 0, 720, 2], "runs")
        play.on(721)
        self.assert_asks(play, [0, 0], "runs")

    def test_in_the_order_in_which_they_went(self):
        play = Play()
        play.trip(9, 0, 1, 300, 2880)
        play.trip(3, 2, 3, 200, 2880)
        play.trip(5, 1, 2, 200, 100)
        play.post(0, 1, 1)
        play.post(2, 2, 3)
        play.post(1, 3, 2)
        play.on(250)
        self.assert_asks(play, [2, 8, 3, 0, 3080, 1, 5, 0, 300, 1], "runs")
        play.on(301)
        self.assert_asks(play, [2, 8, 3, 0, 3080, 1, 9, 0, 3180, 1], "runs")
        play.post(2, 4, 3)
        play.post(2, 5, 3)
        play.on(1650)
        self.assert_asks(play, [3, 12, 3, 0, 3080, 1, 9, 0, 3180, 1, 3, 1, 4520, 2], "runs")

    def test_lost_items_are_on_the_list(self):
        play = linked_play()
        play.post(0, 1, 1)
        play.on(601)
        play.do("lose", 1, 1)
        self.assert_asks(play, [1, 4, 1, 0, 720, 1], "runs")

    def test_an_item_that_was_found_meanwhile_is_still_on_the_list(self):
        play = linked_play()
        play.post(0, 1, 1)
        play.on(601)
        play.do("lose", 1, 1)
        play.do("found", 3, 1)
        self.assert_asks(play, [1, 4, 1, 0, 720, 1], "runs")


if __name__ == "__main__":
    unittest.main()
