"""The calls giveback, settle and account."""

import unittest

from tests.helper import HUGE, HouseCase, Play, linked_play


def losses_of(play):
    """Of each loss item, party, time, cleared, paid, as the call losses answers them."""
    numbers = play.do("losses")[2:]
    return [numbers[place:place + 5] for place in range(0, len(numbers), 5)]


def accounts(play):
    """Of each party cash, what it's owed, what it owes."""
    return [play.do("account", party)[1:] for party in range(5)]


def lost_under_way(broken):
    """Item 1 of value 100, from 0 to 1 with fee 7, lost on its run and missing since 720."""
    play = linked_play()
    play.post(0, 1, 1, value=100, cash=40, fee=7)
    play.on(601)
    play.do("lose", 1, broken)
    play.on(721)
    return play


def paid_and_found(broken=1):
    """The loss of item 1 was paid, then it turned up at office 1."""
    play = lost_under_way(broken)
    play.do("claim", 1)
    play.do("found", 1, 1)
    return play


def deliver(play, number):
    """Sort the one item at office 1 and hand it over."""
    play.sort_out(1)
    return play.do("hand", number, 0)


class GiveBack(HouseCase):
    def test_the_value_comes_back_and_the_debt_is_taken_back(self):
        play = paid_and_found()
        self.assertEqual(accounts(play), [[-93, 100, 0], [0, 0, 0], [0, 0, 0], [0, 0, 0], [0, 0, 100]])
        self.assertEqual(play.do("giveback", 1), [100, 4])
        self.assertEqual(accounts(play), [[7, 0, 0]] + [[0, 0, 0]] * 4)
        self.assertEqual(losses_of(play), [[1, 4, 720, 1, 0]])

    def test_it_came_in(self):
        play = paid_and_found()
        self.assertEqual(play.do("counts")[4:], [7, 100])
        play.do("giveback", 1)
        self.assertEqual(play.do("counts")[4:], [107, 100])

    def test_who_answered_to_itself_owed_nothing(self):
        play = paid_and_found(broken=0)
        self.assertEqual(accounts(play), [[-93, 0, 0]] + [[0, 0, 0]] * 4)
        self.assertEqual(play.do("giveback", 1), [100, 0])
        self.assertEqual(accounts(play), [[7, 0, 0]] + [[0, 0, 0]] * 4)
        self.assertEqual(play.do("counts")[4:], [107, 100])

    def test_behind_a_settle_all_is_owed_the_other_way(self):
        play = paid_and_found()
        play.do("settle")
        self.assertEqual(accounts(play), [[7, 0, 0], [0, 0, 0], [0, 0, 0], [0, 0, 0], [-100, 0, 0]])
        self.assertEqual(play.do("giveback", 1), [100, 4])
        self.assertEqual(accounts(play), [[107, 0, 100], [0, 0, 0], [0, 0, 0], [0, 0, 0], [-100, 100, 0]])
        self.assertEqual(play.do("settle"), [0, 5, -100, 0, 0, 0, 100])
        self.assertEqual(accounts(play), [[7, 0, 0]] + [[0, 0, 0]] * 4)

    def test_what_is_partly_there_is_partly_owed_the_other_way(self):
        play = linked_play()
        play.post(0, 1, 1, value=100)
        play.post(0, 2, 1, cash=30)
        play.on(721)
        play.do("lose", 1, 0)
        play.do("check", 1)
        self.assertEqual(play.do("claim", 1), [100, 1])
        play.do("settle")
        play.do("found", 0, 1)
        self.assertEqual(deliver(play, 2), [0, 30])
        self.assertEqual(accounts(play)[:2], [[0, 30, 0], [-70, 0, 30]])
        # Of the 100 only the 30 for item 2 are there: 0 owes the other 70.
        self.assertEqual(play.do("giveback", 1), [100, 1])
        self.assertEqual(accounts(play)[:2], [[100, 0, 70], [-70, 70, 0]])

    def test_what_is_there_of_another_debt_is_taken(self):
        play = linked_play()
        play.post(0, 1, 1, value=100)
        play.post(0, 2, 1, cash=150)
        play.on(721)
        play.do("lose", 1, 0)
        play.do("check", 1)
        play.do("claim", 1)
        play.do("settle")
        play.do("found", 0, 1)
        deliver(play, 2)
        play.do("giveback", 1)
        self.assertEqual(accounts(play)[:2], [[100, 50, 0], [50, 0, 50]])

    def test_exactly_what_is_there(self):
        play = linked_play()
        play.post(0, 1, 1, value=100)
        play.post(0, 2, 1, cash=100)
        play.on(721)
        play.do("lose", 1, 0)
        play.do("check", 1)
        play.do("claim", 1)
        play.do("settle")
        play.do("found", 0, 1)
        deliver(play, 2)
        play.do("giveback", 1)
        self.assertEqual(accounts(play)[:2], [[100, 0, 0], [0, 0, 0]])

    def test_what_is_owed_the_other_way_already_grows(self):
        play = paid_and_found()
        play.do("settle")
        play.do("giveback", 1)
        play.do("lose", 1, 0)
        play.do("check", 1)
        play.do("claim", 1)
        play.do("found", 1, 1)
        # Now 0 owes 4 the first value, and 1 owes 0 the second one: debts of one pair don't touch the other's.
        self.assertEqual(accounts(play), [[7, 100, 100], [0, 0, 100], [0, 0, 0], [0, 0, 0], [-100, 100, 0]])
        self.assertEqual(play.do("giveback", 1), [100, 1])
        self.assertEqual(accounts(play), [[107, 0, 100], [0, 0, 0], [0, 0, 0], [0, 0, 0], [-100, 100, 0]])

    def test_the_last_loss_that_is_cleared_and_paid(self):
        play = paid_and_found()
        play.do("lose", 1, 0)
        play.do("check", 1)
        play.do("claim", 1)
        play.do("found", 1, 1)
        self.assertEqual(play.do("giveback", 1), [100, 1])
        self.assertEqual(losses_of(play), [[1, 4, 720, 1, 1], [1, 1, 721, 1, 0]])
        self.assertEqual(play.do("giveback", 1), [100, 4])
        self.assertEqual(losses_of(play), [[1, 4, 720, 1, 0], [1, 1, 721, 1, 0]])
        self.assert_refused(play, -6, "giveback", 1)

    def test_a_later_loss_that_is_not_cleared_is_left_out(self):
        play = paid_and_found()
        play.do("lose", 1, 0)
        play.do("check", 1)
        play.do("claim", 1)
        self.assertEqual(play.do("giveback", 1), [100, 4])
        self.assertEqual(losses_of(play), [[1, 4, 720, 1, 0], [1, 1, 721, 0, 1]])

    def test_a_later_loss_that_is_not_paid_is_left_out(self):
        play = paid_and_found()
        play.do("lose", 1, 0)
        play.do("check", 1)
        play.do("found", 1, 1)
        self.assertEqual(play.do("giveback", 1), [100, 4])
        self.assertEqual(losses_of(play), [[1, 4, 720, 1, 0], [1, 1, 721, 1, 0]])

    def test_losses_of_other_items_are_left_out(self):
        play = paid_and_found()
        play.post(1, 2, 0, value=5)
        play.do("lose", 2, 0)
        play.do("check", 1)
        play.do("claim", 2)
        play.do("found", 1, 2)
        self.assertEqual(play.do("giveback", 1), [100, 4])
        self.assertEqual(play.do("giveback", 2), [5, 1])

    def test_a_value_of_nothing(self):
        play = Play()
        play.post(2, 1, 1)
        play.do("lose", 1, 0)
        play.do("check", 2)
        play.do("claim", 1)
        play.do("found", 2, 1)
        self.assertEqual(play.do("giveback", 1), [0, 2])
        self.assert_refused(play, -6, "giveback", 1)

    def test_what_was_given_back_is_not_claimed_again(self):
        play = paid_and_found()
        play.do("giveback", 1)
        self.assert_refused(play, -6, "claim", 1)

    def test_there_is_no_such_loss(self):
        play = linked_play()
        play.post(0, 1, 1, value=100)
        self.assert_refused(play, -6, "giveback", 1)
        play = lost_under_way(1)
        self.assert_refused(play, -6, "giveback", 1)
        play.do("claim", 1)
        self.assert_refused(play, -6, "giveback", 1)
        play = lost_under_way(1)
        play.do("found", 1, 1)
        self.assert_refused(play, -6, "giveback", 1)

    def test_there_is_no_such_item(self):
        for number in (0, 2, -1, 1000, HUGE, -HUGE):
            self.assert_refused(paid_and_found(), -5, "giveback", number)

    def test_it_is_in_the_journal(self):
        play = paid_and_found()
        calls = play.do("counts")[3]
        play.do("giveback", 1)
        self.assertEqual(play.do("counts")[3], calls + 1)
        play.do("giveback", 1)
        self.assertEqual(play.do("counts")[3], calls + 1)


class Settle(HouseCase):
    def test_with_nothing_there(self):
        self.assertEqual(Play().do("settle"), [0, 5, 0, 0, 0, 0, 0])

    def test_what_is_owed_less_what_is_owed_by_it_is_put_to_cash(self):
        play = paid_and_found()
        deliver(play, 1)
        # 4 owes 0 the value of 100, and 1 owes it the cash on delivery of 40.
        self.assertEqual(accounts(play), [[-93, 140, 0], [40, 0, 40], [0, 0, 0], [0, 0, 0], [0, 0, 100]])
        self.assertEqual(play.do("settle"), [0, 5, 140, -40, 0, 0, -100])
        self.assertEqual(accounts(play), [[47, 0, 0], [0, 0, 0], [0, 0, 0], [0, 0, 0], [-100, 0, 0]])
        self.assertEqual(play.do("settle"), [0, 5, 0, 0, 0, 0, 0])
        self.assertEqual(accounts(play), [[47, 0, 0], [0, 0, 0], [0, 0, 0], [0, 0, 0], [-100, 0, 0]])

    def test_debts_both_ways(self):
        play = Play()
        play.trip(1, 2, 3, 0, 10)
        play.trip(2, 3, 2, 0, 10)
        play.post(2, 1, 3, cash=50)
        play.post(3, 2, 2, cash=80)
        play.on(11)
        play.sort_out(2)
        play.sort_out(3)
        play.do("hand", 1, 0)
        play.do("hand", 2, 0)
        self.assertEqual(accounts(play)[2:4], [[80, 50, 80], [50, 80, 50]])
        self.assertEqual(play.do("settle"), [0, 5, 0, 0, -30, 30, 0])
        self.assertEqual(accounts(play)[2:4], [[50, 0, 0], [80, 0, 0]])

    def test_nothing_comes_in_and_nothing_goes_out(self):
        play = paid_and_found()
        before = play.do("counts")
        play.do("settle")
        after = play.do("counts")
        self.assertEqual(after[4:], before[4:])
        self.assertEqual(sum(cash for cash, owed, owes in accounts(play)), after[4] - after[5])

    def test_orders_and_losses_stay(self):
        play = paid_and_found()
        deliver(play, 1)
        before = (play.do("orders"), play.do("losses"))
        play.do("settle")
        self.assertEqual((play.do("orders"), play.do("losses")), before)
        play.do("tell", play.do("orders")[6], 0)
        self.assertEqual(play.do("payout", 0), [40, 0])

    def test_debts_behind_it_are_new_ones(self):
        play = paid_and_found()
        play.do("settle")
        deliver(play, 1)
        self.assertEqual(accounts(play), [[7, 40, 0], [40, 0, 40], [0, 0, 0], [0, 0, 0], [-100, 0, 0]])

    def test_it_is_in_the_journal(self):
        play = Play()
        play.do("settle")
        play.do("settle")
        self.assertEqual(play.do("counts")[3], 2)


class Account(HouseCase):
    def test_with_nothing_there(self):
        for party in range(5):
            self.assert_asks(Play(), [0, 0, 0, 0], "account", party)

    def test_fees_are_cash(self):
        play = Play()
        play.post(3, 1, 1, fee=1000)
        play.post(3, 2, 1, fee=1)
        self.assert_asks(play, [0, 1001, 0, 0], "account", 3)
        self.assert_asks(play, [0, 0, 0, 0], "account", 1)

    def test_cash_below_0_is_no_refusal(self):
        play = paid_and_found()
        self.assert_asks(play, [0, -93, 100, 0], "account", 0)
        self.assert_asks(play, [0, 0, 0, 100], "account", 4)

    def test_an_order_paid_is_out_of_the_paying_office_s_cash(self):
        play = linked_play()
        play.post(0, 1, 1, cash=40)
        play.on(721)
        deliver(play, 1)
        play.do("tell", 5, 0)
        play.do("payout", 0)
        self.assert_asks(play, [0, -40, 40, 0], "account", 0)
        self.assert_asks(play, [0, 40, 0, 40], "account", 1)

    def test_what_is_owed_to_several_and_by_several_is_added(self):
        play = Play()
        for number, other in ((1, 1), (2, 2), (3, 3)):
            play.trip(number, other, 0, 0, 10)
            play.trip(number + 3, 0, other, 0, 10)
            play.post(other, number, 0, cash=number)
            play.post(0, number + 3, other, cash=10 * number)
        play.on(11)
        for office in range(4):
            play.sort_out(office)
        for number in range(1, 7):
            self.assertEqual(play.do("hand", number, 0)[0], 0)
        self.assert_asks(play, [0, 6, 60, 6], "account", 0)
        self.assert_asks(play, [0, 20, 2, 20], "account", 2)
        self.assertEqual(play.do("settle"), [0, 5, 54, -9, -18, -27, 0])

    def test_the_range(self):
        self.assert_range(paid_and_found, "account", (0,), 0, 0, 4)


if __name__ == "__main__":
    unittest.main()
