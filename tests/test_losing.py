"""The calls lose, check, found and claim, and items that are missing when a run comes."""

import unittest

from tests.helper import HUGE, HouseCase, Play, linked_play


def losses_of(play):
    return [(loss.item, loss.party, loss.time, loss.cleared, loss.paid) for loss in play.house().losses]


def under_way():
    """Items 1, 2 and 3 on the run of trip 1, item 4 in the bin of office 1, at 601."""
    play = linked_play()
    for number in (1, 2, 3):
        play.post(0, number, 1, value=100 * number)
    play.post(1, 4, 0, value=400)
    play.on(601)
    return play


class Lose(HouseCase):
    def test_in_a_bin_and_on_a_run(self):
        play = under_way()
        self.assertEqual(play.do("lose", 4, 0), [0])
        self.assertEqual(play.do("lose", 1, 0), [1])
        self.assertEqual(play.do("lose", 2, 1), [1])
        self.assertEqual([play.item(number).lost for number in (1, 2, 3, 4)], [True, True, False, True])

    def test_nobody_notices(self):
        play = under_way()
        told = len(play.messages())
        play.do("lose", 4, 0)
        play.do("lose", 1, 0)
        self.assertEqual(len(play.messages()), told)
        self.assertEqual(play.bin_of(1), [4])
        self.assertEqual(play.item(1).place, (1, 1, 0))
        self.assertEqual(losses_of(play), [])

    def test_there_is_no_such_item(self):
        for number in (0, -1, 5, HUGE, -HUGE):
            self.assert_refused(under_way(), -5, "lose", number, 0)
            self.assert_refused(under_way(), -5, "lose", number, 7)

    def test_the_range(self):
        self.assert_range(under_way, "lose", (1, 0), 1, 0, 1)
        for broken in (-1, 2, HUGE, -HUGE):
            self.assert_refused(under_way(), -1, "lose", 4, broken)

    def test_lost_already(self):
        play = under_way()
        play.do("lose", 4, 0)
        play.do("lose", 1, 0)
        self.assert_refused(play, -6, "lose", 4, 0)
        self.assert_refused(play, -6, "lose", 1, 0)
        self.assert_refused(play, -6, "lose", 1, 1)
        self.assert_refused(play, -1, "lose", 1, 2)

    def test_no_seal_in_a_bin(self):
        play = under_way()
        self.assert_refused(play, -6, "lose", 4, 1)
        self.assertEqual(play.do("lose", 4, 0), [0])

    def test_neither_in_a_bin_nor_on_a_run(self):
        play = under_way()
        play.on(721)
        play.do("pass_items", 1, 100)
        self.assert_refused(play, -6, "lose", 1, 0)
        play.do("pass_items", 1, 100)
        play.do("out", 1)
        self.assert_refused(play, -6, "lose", 1, 0)
        play.do("hand", 1, 0)
        self.assert_refused(play, -6, "lose", 1, 0)
        play.do("hand", 2, 1)
        play.do("hand", 3, 0)
        play.sort_out(1)
        play.do("hand", 2, 1)
        self.assertEqual(play.item(2).place, (4, 1, 0))
        self.assert_refused(play, -6, "lose", 2, 0)

    def test_a_missing_item_can_not_be_lost(self):
        play = under_way()
        play.do("lose", 4, 0)
        play.do("check", 1)
        self.assert_refused(play, -6, "lose", 4, 0)


class Missing(HouseCase):
    def test_the_office_that_a_run_came_from_answers_under_a_whole_seal(self):
        play = under_way()
        play.do("lose", 2, 0)
        self.assertEqual(play.on(721), [721, 3])
        self.assertEqual(play.bin_of(1), [4, 1, 3])
        self.assertEqual(play.item(2).place, (6, 0, 0))
        self.assertEqual(losses_of(play), [(2, 0, 720, False, False)])
        self.assertEqual(play.messages()[-3:], [(1, 720, 1, 1), (1, 720, 2, 9), (1, 720, 3, 1)])
        self.assertTrue(play.item(2).lost)

    def test_who_carries_answers_for_all_of_a_run_with_a_broken_seal(self):
        play = under_way()
        play.do("lose", 1, 0)
        play.do("lose", 3, 1)
        play.on(721)
        self.assertEqual(losses_of(play), [(1, 4, 720, False, False), (3, 4, 720, False, False)])
        self.assertEqual(play.item(1).place, (6, 4, 0))

    def test_a_broken_seal_stays_broken(self):
        play = under_way()
        play.do("lose", 1, 1)
        play.do("lose", 3, 0)
        play.on(721)
        self.assertEqual([loss[1] for loss in losses_of(play)], [4, 4])

    def test_the_seal_of_another_trip_s_run_does_not_count(self):
        play = Play()
        play.trip(1, 2, 3, 600, 120)
        play.trip(8, 0, 1, 600, 120)
        play.post(2, 1, 3)
        play.post(0, 2, 1)
        play.on(601)
        play.do("lose", 1, 0)
        play.do("lose", 2, 1)
        play.on(721)
        self.assertEqual(losses_of(play), [(1, 2, 720, False, False), (2, 4, 720, False, False)])

    def test_the_seal_of_another_day_s_run_does_not_count(self):
        play = Play()
        play.trip(1, 0, 1, 600, 2880)
        play.post(0, 1, 1)
        play.on(700)
        play.post(0, 2, 1)
        play.on(2100)
        play.do("lose", 1, 1)
        play.do("lose", 2, 0)
        play.on(4980)
        self.assertEqual(losses_of(play), [(1, 4, 3480, False, False), (2, 0, 4920, False, False)])

    def test_the_run_s_office_answers_and_not_the_item_s(self):
        play = Play()
        play.trip(1, 0, 1, 100, 10)
        play.trip(2, 1, 2, 200, 10)
        play.post(0, 1, 2, value=50)
        play.on(201)
        play.do("lose", 1, 0)
        play.on(211)
        self.assertEqual(losses_of(play), [(1, 1, 210, False, False)])
        self.assertEqual(play.messages()[-1], (2, 210, 1, 9))

    def test_a_lost_item_under_a_run_s_time_stays_in_the_bin_until_a_check(self):
        play = linked_play()
        play.post(0, 1, 1)
        play.do("lose", 1, 0)
        self.assertEqual(play.on(2000), [2000, 0])
        self.assertEqual(play.do("check", 0), [1])


class Check(HouseCase):
    def test_lost_items_of_the_bin_are_missing(self):
        play = Play()
        for number in (5, 3, 9, 1):
            play.post(2, number, 1)
        play.post(1, 7, 2)
        for number in (1, 3, 5, 7):
            play.do("lose", number, 0)
        play.on(44)
        self.assertEqual(play.do("check", 2), [3])
        self.assertEqual(play.bin_of(2), [9])
        self.assertEqual(play.bin_of(1), [7])
        self.assertEqual([row[0] for row in losses_of(play)], [5, 3, 1])
        self.assertEqual(losses_of(play)[0], (5, 2, 44, False, False))
        self.assertEqual(play.messages(5), [(2, 44, 5, 9), (2, 44, 3, 9), (2, 44, 1, 9)])
        self.assertEqual(play.item(5).place, (6, 2, 0))
        self.assertEqual(play.do("check", 2), [0])

    def test_the_office_answers_wherever_the_item_is_from(self):
        play = linked_play()
        play.post(0, 1, 1)
        play.on(721)
        play.do("lose", 1, 0)
        self.assertEqual(play.do("check", 1), [1])
        self.assertEqual(losses_of(play), [(1, 1, 721, False, False)])

    def test_nothing_is_missing(self):
        self.assertEqual(under_way().do("check", 1), [0])
        self.assertEqual(Play().do("check", 3), [0])

    def test_items_lost_on_a_run_are_not_the_office_s(self):
        play = under_way()
        play.do("lose", 1, 0)
        for office in range(4):
            self.assertEqual(play.do("check", office), [0])

    def test_the_range(self):
        self.assert_range(Play, "check", (0,), 0, 0, 3)


class Found(HouseCase):
    def test_what_was_in_a_bin_goes_behind_the_others(self):
        play = Play()
        for number in (1, 2, 3):
            play.post(0, number, 1)
        play.do("lose", 1, 0)
        play.on(9)
        self.assertEqual(play.do("found", 0, 1), [0])
        self.assertEqual(play.bin_of(0), [2, 3, 1])
        self.assertEqual(play.messages()[-1], (0, 9, 1, 10))
        self.assertFalse(play.item(1).lost)
        self.assertEqual(play.do("check", 0), [0])

    def test_what_was_in_another_office_s_bin(self):
        play = Play()
        play.post(0, 1, 1)
        play.post(2, 2, 1)
        play.do("lose", 1, 0)
        self.assertEqual(play.do("found", 2, 1), [0])
        self.assertEqual(play.bin_of(0), [])
        self.assertEqual(play.bin_of(2), [2, 1])
        self.assertEqual(play.item(1).place, (0, 2, 0))
        self.assertEqual(play.messages()[-1], (2, 0, 1, 10))

    def test_what_was_on_a_run_does_not_come_with_it(self):
        play = under_way()
        play.do("lose", 2, 0)
        self.assertEqual(play.do("found", 3, 2), [0])
        self.assertEqual(play.bin_of(3), [2])
        self.assertEqual(play.on(721), [721, 2])
        self.assertEqual(play.bin_of(3), [2])
        self.assertEqual(play.bin_of(1), [4, 1, 3])
        self.assertEqual(losses_of(play), [])

    def test_what_was_on_a_run_and_goes_by_another_one(self):
        play = Play()
        play.trip(1, 0, 1, 600, 2880)
        play.trip(2, 0, 1, 700, 50)
        play.do("cancel", 2, 0)
        play.post(0, 1, 1)
        play.do("cancel", 2, 1)
        play.on(601)
        play.do("lose", 1, 1)
        play.do("found", 0, 1)
        play.trip(3, 0, 1, 800, 2800)
        self.assertEqual(play.on(801), [801, 1])
        self.assertEqual(play.item(1).place, (1, 3, 0))
        play.do("lose", 1, 0)
        self.assertEqual(play.on(3481), [3481, 0])
        self.assertEqual(play.on(3601), [3601, 1])
        self.assertEqual(losses_of(play), [(1, 0, 3600, False, False)])

    def test_all_its_losses_are_cleared_and_no_others(self):
        play = Play()
        play.post(0, 1, 1)
        play.post(0, 2, 1)
        play.do("lose", 1, 0)
        play.do("lose", 2, 0)
        play.do("check", 0)
        play.do("found", 0, 1)
        play.do("lose", 1, 0)
        play.do("check", 0)
        self.assertEqual([row[3] for row in losses_of(play)], [True, False, False])
        play.do("found", 3, 1)
        self.assertEqual([row[3] for row in losses_of(play)], [True, False, True])
        self.assertEqual(play.bin_of(3), [1])

    def test_an_item_that_was_found_goes_its_way(self):
        play = linked_play()
        play.post(0, 1, 1)
        play.do("lose", 1, 0)
        play.do("check", 0)
        play.do("found", 0, 1)
        self.assertEqual(play.on(721), [721, 2])
        self.assertEqual(play.do("lose", 1, 0), [0])

    def test_the_range(self):
        for office in (-1, 4, HUGE, -HUGE):
            play = Play()
            play.post(0, 1, 1)
            play.do("lose", 1, 0)
            self.assert_refused(play, -1, "found", office, 1)
        for office in (0, 3):
            play = Play()
            play.post(0, 1, 1)
            play.do("lose", 1, 0)
            self.assertEqual(play.do("found", office, 1), [0])

    def test_refusals_in_their_order(self):
        play = under_way()
        self.assert_refused(play, -1, "found", 4, 77)
        self.assert_refused(play, -1, "found", 4, 1)
        for number in (77, 0, HUGE, -HUGE):
            self.assert_refused(play, -5, "found", 3, number)
        self.assert_refused(play, -6, "found", 3, 1)
        self.assert_refused(play, -6, "found", 3, 4)

    def test_it_is_found_once(self):
        play = under_way()
        play.do("lose", 4, 0)
        play.do("found", 1, 4)
        self.assert_refused(play, -6, "found", 1, 4)


class Claim(HouseCase):
    def test_who_carries_owes_what_the_item_s_office_paid(self):
        play = under_way()
        play.do("lose", 3, 1)
        play.on(721)
        self.assertEqual(play.do("claim", 3), [300, 4])
        self.assertEqual(play.house().cash, [-300, 0, 0, 0, 0])
        self.assertEqual(play.house().debts[4], [300, 0, 0, 0, 0])
        self.assertEqual((play.house().came_in, play.house().went_out), (0, 300))
        self.assertEqual(losses_of(play), [(3, 4, 720, False, True)])

    def test_another_office_owes_it(self):
        play = linked_play()
        play.post(0, 1, 1, value=100000, fee=3)
        play.on(721)
        play.do("lose", 1, 0)
        play.do("check", 1)
        self.assertEqual(play.do("claim", 1), [100000, 1])
        self.assertEqual(play.house().cash, [3 - 100000, 0, 0, 0, 0])
        self.assertEqual(play.house().debts[1], [100000, 0, 0, 0, 0])

    def test_nobody_owes_itself(self):
        play = under_way()
        play.do("lose", 3, 0)
        play.on(721)
        self.assertEqual(play.do("claim", 3), [300, 0])
        self.assertEqual(play.house().cash, [-300, 0, 0, 0, 0])
        self.assertEqual(play.house().debts, [[0] * 5] * 5)
        self.assertEqual(play.house().went_out, 300)

    def test_a_value_of_nothing(self):
        play = Play()
        play.post(2, 1, 1)
        play.do("lose", 1, 0)
        play.do("check", 2)
        self.assertEqual(play.do("claim", 1), [0, 2])
        self.assert_refused(play, -6, "claim", 1)

    def test_there_is_no_such_loss(self):
        play = under_way()
        self.assert_refused(play, -6, "claim", 1)
        play.do("lose", 1, 0)
        self.assert_refused(play, -6, "claim", 1)
        play.on(721)
        self.assert_refused(play, -6, "claim", 2)
        play.do("claim", 1)
        self.assert_refused(play, -6, "claim", 1)

    def test_a_cleared_loss_is_not_claimed(self):
        play = under_way()
        play.do("lose", 1, 0)
        play.on(721)
        play.do("found", 1, 1)
        self.assert_refused(play, -6, "claim", 1)

    def test_the_last_loss_is_claimed(self):
        play = under_way()
        play.do("lose", 1, 1)
        play.on(721)
        play.do("found", 1, 1)
        play.do("lose", 1, 0)
        play.do("check", 1)
        self.assertEqual(play.do("claim", 1), [100, 1])
        self.assertEqual([row[3:] for row in losses_of(play)], [(True, False), (False, True)])

    def test_a_second_loss_behind_a_paid_one(self):
        play = under_way()
        play.do("lose", 1, 1)
        play.on(721)
        self.assertEqual(play.do("claim", 1), [100, 4])
        play.do("found", 1, 1)
        play.do("lose", 1, 0)
        play.do("check", 1)
        self.assertEqual(play.do("claim", 1), [100, 1])
        self.assertEqual(play.house().cash[0], -200)
        self.assertEqual((play.house().debts[4][0], play.house().debts[1][0]), (100, 100))

    def test_there_is_no_such_item(self):
        for number in (0, 5, -1, 1000, HUGE, -HUGE):
            self.assert_refused(under_way(), -5, "claim", number)


if __name__ == "__main__":
    unittest.main()
