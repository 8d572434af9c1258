"""The calls hand, pickup, tell and payout."""

import unittest

from tests.helper import HUGE, HouseCase, Play, linked_play


def with_round(count=1, **more):
    """Items 1, 2, .. from 0 are with the round of office 1, in that order, at 721."""
    play = linked_play()
    for number in range(1, count + 1):
        play.post(0, number, 1, point=number, **more)
    play.on(721)
    play.sort_out(1)
    return play


def at_counter(**more):
    """Item 1 is at the counter of office 1."""
    play = with_round(**more)
    play.do("hand", 1, 1)
    play.sort_out(1)
    play.do("hand", 1, 1)
    return play


def going_back(**more):
    """Item 1 goes back and is with the round of office 0, at 861."""
    play = with_round(**more)
    play.do("hand", 1, 2)
    play.on(861)
    play.sort_out(0)
    return play


class Hand(HouseCase):
    def test_handed_over_for_cash(self):
        play = with_round(cash=30)
        self.assertEqual(play.do("hand", 1, 0), [0, 30])
        self.assertEqual(play.round_of(1), [])
        self.assertEqual(play.item(1).place, (5, 0, 1))
        self.assertEqual(play.messages()[-2:], [(1, 721, 1, 6), (1, 721, 1, 11)])
        house = play.house()
        self.assertEqual(house.cash, [0, 30, 0, 0, 0])
        self.assertEqual(house.debts[1], [30, 0, 0, 0, 0])
        self.assertEqual(house.came_in, 30)
        order = house.orders[0]
        self.assertEqual((order.item, order.amount, order.taker, order.payer), (1, 30, 1, 0))
        self.assertEqual((order.message, order.paid), (5, False))

    def test_handed_over_without_cash(self):
        play = with_round()
        self.assertEqual(play.do("hand", 1, 0), [0, 0])
        self.assertEqual(play.messages()[-1], (1, 721, 1, 6))
        self.assertEqual(play.house().orders, [])
        self.assert_refused(play, -5, "payout", 0)

    def test_the_least_and_the_most_cash(self):
        for cash in (1, 100000):
            play = with_round(cash=cash)
            self.assertEqual(play.do("hand", 1, 0), [0, cash])
            self.assertEqual(play.house().orders[0].amount, cash)
            self.assertEqual(play.house().cash[1], cash)

    def test_nobody_there_at_first(self):
        play = with_round(2, cash=30)
        play.post(1, 50, 0)
        self.assertEqual(play.do("hand", 1, 1), [1, 0])
        self.assertEqual(play.bin_of(1), [50, 1])
        self.assertEqual(play.round_of(1), [2])
        self.assertEqual(play.item(1).attempts, 1)
        self.assertEqual(play.messages()[-1], (1, 721, 1, 4))

    def test_nobody_there_for_the_second_time(self):
        play = with_round(cash=30)
        play.do("hand", 1, 1)
        play.on(730)
        play.sort_out(1)
        self.assertEqual(play.do("hand", 1, 1), [1, 0])
        self.assertEqual(play.bin_of(1), [])
        item = play.item(1)
        self.assertEqual((item.place, item.since, item.attempts), ((4, 1, 0), 730, 2))
        self.assertEqual(play.messages()[-1], (1, 730, 1, 4))

    def test_handed_over_at_the_second_attempt(self):
        play = with_round(cash=30)
        play.do("hand", 1, 1)
        play.sort_out(1)
        self.assertEqual(play.do("hand", 1, 0), [0, 30])

    def test_refused_goes_back(self):
        play = with_round(cash=30)
        self.assertEqual(play.do("hand", 1, 2), [2, 0])
        item = play.item(1)
        self.assertEqual((item.place, item.goes_back, item.attempts), ((0, 1, 0), True, 0))
        self.assertEqual(play.messages()[-1], (1, 721, 1, 5))
        self.assertEqual(play.on(861), [861, 2])
        self.assertEqual(play.bin_of(0), [1])

    def test_refused_behind_an_attempt_has_none_any_more(self):
        play = with_round()
        play.do("hand", 1, 1)
        play.sort_out(1)
        play.do("hand", 1, 2)
        self.assertEqual(play.item(1).attempts, 0)
        play.on(861)
        play.sort_out(0)
        play.do("hand", 1, 1)
        self.assertEqual(play.item(1).place, (0, 0, 0))
        self.assertEqual(play.item(1).attempts, 1)

    def test_returned_without_cash(self):
        play = going_back(cash=30)
        self.assertEqual(play.do("hand", 1, 0), [0, 0])
        self.assertEqual(play.item(1).place, (5, 1, 0))
        self.assertEqual(play.messages()[-1], (0, 861, 1, 7))
        self.assertEqual(play.house().cash, [0] * 5)
        self.assertEqual(play.house().orders, [])

    def test_refused_at_home_is_destroyed(self):
        play = going_back(cash=30)
        self.assertEqual(play.do("hand", 1, 2), [2, 0])
        self.assertEqual(play.item(1).place, (5, 2, 0))
        self.assertEqual(play.messages()[-1], (0, 861, 1, 8))
        self.assertEqual(play.bin_of(0), [])

    def test_there_is_no_such_item(self):
        for number in (0, 2, -1, 1000, HUGE, -HUGE):
            self.assert_refused(with_round(), -5, "hand", number, 0)
            self.assert_refused(with_round(), -5, "hand", number, 3)

    def test_the_range(self):
        self.assert_range(with_round, "hand", (1, 0), 1, 0, 2)

    def test_not_with_a_round(self):
        play = linked_play()
        play.post(0, 1, 1)
        for until in (0, 601, 721):
            play.on(until)
            self.assert_refused(play, -6, "hand", 1, 0)
        for step in range(2):
            play.do("pass_items", 1, 5)
            self.assert_refused(play, -6, "hand", 1, 0)
        play.do("out", 1)
        play.do("hand", 1, 0)
        self.assert_refused(play, -6, "hand", 1, 0)
        self.assert_refused(at_counter(), -6, "hand", 1, 0)

    def test_not_the_next_one(self):
        play = with_round(3)
        self.assert_refused(play, -7, "hand", 2, 0)
        self.assert_refused(play, -7, "hand", 3, 1)
        self.assert_refused(play, -7, "hand", 3, 2)
        play.do("hand", 1, 0)
        self.assert_refused(play, -7, "hand", 3, 0)
        self.assertEqual(play.do("hand", 2, 0), [0, 0])
        self.assertEqual(play.do("hand", 3, 0), [0, 0])

    def test_refusals_in_their_order(self):
        play = with_round(2)
        play.post(0, 9, 1)
        self.assert_refused(play, -1, "hand", 2, 3)
        self.assert_refused(play, -1, "hand", 9, -1)
        self.assert_refused(play, -6, "hand", 9, 0)

    def test_each_office_has_a_round_of_its_own(self):
        play = linked_play()
        play.post(0, 1, 1)
        play.post(1, 2, 0)
        play.on(861)
        play.sort_out(0)
        play.sort_out(1)
        self.assertEqual(play.do("hand", 1, 0), [0, 0])
        self.assertEqual(play.do("hand", 2, 0), [0, 0])


class Pickup(HouseCase):
    def test_handed_over_at_the_counter(self):
        play = at_counter(cash=30)
        play.on(800)
        self.assertEqual(play.do("pickup", 1), [30])
        self.assertEqual(play.item(1).place, (5, 0, 1))
        self.assertEqual(play.messages()[-2:], [(1, 800, 1, 6), (1, 800, 1, 11)])
        self.assertEqual(play.house().cash, [0, 30, 0, 0, 0])
        self.assertEqual(play.house().debts[1][0], 30)
        self.assertEqual(play.on_by_steps(12000), 0)

    def test_without_cash(self):
        self.assertEqual(at_counter().do("pickup", 1), [0])

    def test_returned_at_the_counter(self):
        play = going_back(cash=30)
        play.do("hand", 1, 1)
        play.sort_out(0)
        play.do("hand", 1, 1)
        self.assertEqual(play.do("pickup", 1), [0])
        self.assertEqual(play.item(1).place, (5, 1, 0))
        self.assertEqual(play.messages()[-1], (0, 861, 1, 7))

    def test_there_is_no_such_item(self):
        for number in (0, 2, -1, HUGE, -HUGE):
            self.assert_refused(at_counter(), -5, "pickup", number)

    def test_not_at_a_counter(self):
        play = with_round()
        self.assert_refused(play, -6, "pickup", 1)
        play.do("hand", 1, 1)
        self.assert_refused(play, -6, "pickup", 1)
        play = at_counter()
        play.do("pickup", 1)
        self.assert_refused(play, -6, "pickup", 1)


class Tell(HouseCase):
    def make(self):
        play = Play()
        play.post(0, 1, 1)
        play.post(2, 2, 1)
        return play

    def test_what_was_not_known_and_what_was(self):
        play = self.make()
        self.assertEqual(play.do("tell", 0, 0), [0])
        self.assertEqual(play.do("tell", 0, 3), [1])
        self.assertEqual(play.do("tell", 0, 3), [0])
        self.assertEqual(play.do("tell", 1, 0), [1])
        self.assertEqual(play.do("tell", 1, 2), [0])
        self.assertEqual([list(known) for known in play.house().known], [[0, 1], [], [1], [0]])

    def test_messages_are_known_in_the_order_of_telling(self):
        play = self.make()
        play.do("tell", 1, 3)
        play.do("tell", 0, 3)
        self.assertEqual(list(play.house().known[3]), [1, 0])

    def test_no_message_is_told(self):
        play = self.make()
        play.do("tell", 0, 3)
        self.assertEqual(len(play.messages()), 2)

    def test_the_range(self):
        self.assert_range(self.make, "tell", (0, 1), 1, 0, 3)

    def test_there_is_no_such_message(self):
        for message in (2, -1, HUGE, -HUGE):
            self.assert_refused(self.make(), -5, "tell", message, 1)
            self.assert_refused(self.make(), -1, "tell", message, 4)
        self.assert_refused(Play(), -5, "tell", 0, 0)


class Payout(HouseCase):
    def make(self):
        """Orders 0 (10, message 9) and 1 (20, message 11) of office 1, to be paid by 0."""
        play = linked_play()
        play.post(0, 1, 1, point=1, cash=10)
        play.post(0, 2, 1, point=2, cash=20)
        play.on(721)
        play.sort_out(1)
        play.do("hand", 1, 0)
        play.do("hand", 2, 0)
        return play

    def test_each_order_by_its_own_message(self):
        play = self.make()
        self.assertEqual([order.message for order in play.house().orders], [9, 11])
        self.assertEqual(play.do("tell", 11, 0), [1])
        self.assert_refused(play, -6, "payout", 0)
        self.assertEqual(play.do("payout", 1), [20, 0])
        self.assertEqual(play.do("tell", 9, 0), [1])
        self.assertEqual(play.do("payout", 0), [10, 0])

    def test_it_is_paid_out_of_that_office_s_cash(self):
        play = self.make()
        play.do("tell", 11, 0)
        play.do("payout", 1)
        house = play.house()
        self.assertEqual(house.cash, [-20, 30, 0, 0, 0])
        self.assertEqual(house.debts[1], [30, 0, 0, 0, 0])
        self.assertEqual((house.came_in, house.went_out), (30, 20))

    def test_the_message_of_another_office_does_not_count(self):
        play = self.make()
        for office in (2, 3):
            play.do("tell", 9, office)
        self.assertEqual(play.do("tell", 9, 1), [0])
        play.do("tell", 8, 0)
        self.assert_refused(play, -6, "payout", 0)

    def test_it_is_paid_once(self):
        play = self.make()
        play.do("tell", 9, 0)
        play.do("payout", 0)
        self.assert_refused(play, -7, "payout", 0)
        play.do("tell", 9, 0)
        self.assert_refused(play, -7, "payout", 0)

    def test_there_is_no_such_order(self):
        for order in (2, -1, HUGE, -HUGE):
            self.assert_refused(self.make(), -5, "payout", order)
        self.assert_refused(Play(), -5, "payout", 0)


if __name__ == "__main__":
    unittest.main()
