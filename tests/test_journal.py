"""The calls back and counts, and the journal behind them."""

import unittest

from postalhouse.house import answers
from tests.helper import ASKING, COUNTS, HUGE, NAMES, HouseCase, Play, linked_play, split_answers

DOING = NAMES[:len(NAMES) - len(ASKING)]
NEW = [0, 0, 0, 0, 0, 0, 0, 5, 0, 0, 0, 0, 0]


def busy_play():
    """One of each call that does something: items delivered, lost, paid for, found, given back, settled."""
    play = linked_play()
    play.do("cancel", 2, 3)
    play.post(0, 1, 1, point=4, value=10, cash=30, fee=2)
    play.post(0, 2, 1, point=4, value=100, fee=3)
    play.post(0, 3, 1, point=5, value=1000, fee=4, cash=7)
    play.on(601)
    play.do("lose", 2, 1)
    play.on(721)
    play.do("claim", 2)
    play.do("settle")
    play.do("found", 1, 2)
    play.do("giveback", 2)
    play.do("lose", 2, 0)
    play.do("check", 1)
    for attempt in range(2):
        play.sort_out(1)
        play.do("hand", 1, 1)
        play.do("hand", 3, 1)
    play.do("pickup", 3)
    play.do("tell", play.do("orders")[6], 0)
    play.do("payout", 0)
    play.do("settle")
    return play


def anew(calls):
    """What the answers on a new house come to behind these calls: as back tells it."""
    numbers = []
    for call, given in calls:
        numbers += [call, *given]
    asked = numbers + [27, 23, 24] + [number for party in range(5) for number in (22, party)]
    found = split_answers(answers(asked))[len(calls):]
    counts = found[0]
    cash = [account[1] for account in found[3:]]
    return counts[:3] + [found[1][0], found[2][0]] + counts[4:] + [5] + cash


class Counts(HouseCase):
    def test_with_nothing_there(self):
        self.assert_asks(Play(), [0, 0, 0, 0, 0, 0], "counts")

    def test_each_of_them(self):
        play = linked_play()
        self.assert_asks(play, [0, 0, 0, 2, 0, 0], "counts")
        play.post(0, 1, 1, value=50, cash=30, fee=2)
        self.assert_asks(play, [0, 1, 1, 3, 2, 0], "counts")
        play.on(721)
        self.assert_asks(play, [721, 1, 3, 4, 2, 0], "counts")
        play.do("lose", 1, 0)
        play.do("check", 1)
        play.do("claim", 1)
        self.assert_asks(play, [721, 1, 4, 7, 2, 50], "counts")
        play.do("found", 1, 1)
        play.do("giveback", 1)
        self.assert_asks(play, [721, 1, 5, 9, 52, 50], "counts")
        play.sort_out(1)
        play.do("hand", 1, 0)
        self.assert_asks(play, [721, 1, 8, 13, 82, 50], "counts")
        play.do("tell", 7, 0)
        play.do("payout", 0)
        self.assert_asks(play, [721, 1, 8, 15, 82, 80], "counts")
        play.do("settle")
        self.assert_asks(play, [721, 1, 8, 16, 82, 80], "counts")

    def test_refusals_are_not_in_the_journal(self):
        play = linked_play()
        for name in DOING:
            if COUNTS[name]:
                self.assertLess(play.do(name, *[HUGE] * COUNTS[name])[0], 0)
        self.assert_asks(play, [0, 0, 0, 2, 0, 0], "counts")

    def test_a_call_that_does_little_is_in_the_journal(self):
        play = Play()
        play.on(0)
        play.do("check", 0)
        play.do("settle")
        self.assert_asks(play, [0, 0, 0, 3, 0, 0], "counts")
        play.post(0, 1, 1)
        play.do("tell", 0, 0)
        play.do("tell", 0, 0)
        self.assert_asks(play, [0, 1, 1, 6, 0, 0], "counts")

    def test_what_asks_is_not_in_the_journal(self):
        play = busy_play()
        calls = len(play.done())
        self.assertEqual(play.do("counts")[3], calls)
        for name in ASKING:
            self.assertGreaterEqual(play.do(name, *[1] * COUNTS[name])[0], 0, name)
            self.assertEqual(play.do("counts")[3], calls, name)


class Asking(HouseCase):
    def test_what_asks_changes_nothing(self):
        play = busy_play()
        for name in ASKING:
            given = [1] * COUNTS[name]
            answer = play.do(name, *given)
            self.assertGreaterEqual(answer[0], 0, name)
            self.assert_asks(play, answer, name, *given)

    def test_what_asks_can_be_left_out(self):
        plain_calls = busy_play()
        mixed = Play()
        for call, given in plain_calls.done():
            mixed.do(NAMES[call], *given)
            for name in ASKING:
                mixed.do(name, *[1] * COUNTS[name])
        self.assertEqual(mixed.done(), plain_calls.done())
        self.assertEqual(anew(mixed.done()), mixed.do("back", len(mixed.done())))
        for name in ASKING:
            given = [1] * COUNTS[name]
            self.assertEqual(mixed.do(name, *given), plain_calls.do(name, *given), name)


class Back(HouseCase):
    def test_with_nothing_there(self):
        self.assert_asks(Play(), NEW, "back", 0)
        self.assert_refused(Play(), -1, "back", 1)
        self.assert_refused(Play(), -1, "back", -1)

    def test_at_0(self):
        self.assert_asks(busy_play(), NEW, "back", 0)

    def test_step_by_step(self):
        play = linked_play()
        play.post(0, 1, 1, value=50, cash=30, fee=2)
        play.on(721)
        play.do("lose", 1, 0)
        play.do("check", 1)
        play.do("claim", 1)
        play.do("settle")
        play.do("found", 1, 1)
        play.sort_out(1)
        play.do("hand", 1, 0)
        expected = [
            NEW,
            NEW,
            NEW,
            [0, 1, 1, 0, 0, 2, 0, 5, 2, 0, 0, 0, 0],
            [721, 1, 3, 0, 0, 2, 0, 5, 2, 0, 0, 0, 0],
            [721, 1, 3, 0, 0, 2, 0, 5, 2, 0, 0, 0, 0],
            [721, 1, 4, 1, 0, 2, 0, 5, 2, 0, 0, 0, 0],
            [721, 1, 4, 1, 0, 2, 50, 5, -48, 0, 0, 0, 0],
            [721, 1, 4, 1, 0, 2, 50, 5, 2, -50, 0, 0, 0],
            [721, 1, 5, 1, 0, 2, 50, 5, 2, -50, 0, 0, 0],
            [721, 1, 5, 1, 0, 2, 50, 5, 2, -50, 0, 0, 0],
            [721, 1, 5, 1, 0, 2, 50, 5, 2, -50, 0, 0, 0],
            [721, 1, 6, 1, 0, 2, 50, 5, 2, -50, 0, 0, 0],
            [721, 1, 8, 1, 1, 32, 50, 5, 2, -20, 0, 0, 0],
        ]
        for calls, told in enumerate(expected):
            self.assert_asks(play, told, "back", calls)
        self.assert_refused(play, -1, "back", len(expected))

    def test_doing_the_journal_s_calls_anew_comes_to_the_same(self):
        play = busy_play()
        done = play.done()
        self.assertGreater(len(done), 25)
        for calls in range(len(done) + 1):
            self.assert_asks(play, anew(done[:calls]), "back", calls)

    def test_at_all_of_the_journal_it_is_the_present(self):
        play = busy_play()
        counts = play.do("counts")
        told = play.do("back", counts[3])
        self.assertEqual(told[:3], counts[:3])
        self.assertEqual(told[3], play.do("losses")[0])
        self.assertEqual(told[4], play.do("orders")[0])
        self.assertEqual(told[5:7], counts[4:])
        self.assertEqual(told[7:], [5] + [play.do("account", party)[1] for party in range(5)])

    def test_beyond_the_journal(self):
        play = busy_play()
        calls = play.do("counts")[3]
        for number in (calls + 1, -1, HUGE, -HUGE):
            self.assert_refused(play, -1, "back", number)
        self.assertEqual(play.do("back", calls)[0], 721)

    def test_refusals_are_not_counted(self):
        play = Play()
        play.post(0, 1, 1, fee=5)
        play.post(0, 1, 1, fee=7)
        play.post(0, 2, 1, fee=9)
        self.assert_asks(play, [0, 1, 1, 0, 0, 5, 0, 5, 5, 0, 0, 0, 0], "back", 1)
        self.assert_asks(play, [0, 2, 2, 0, 0, 14, 0, 5, 14, 0, 0, 0, 0], "back", 2)
        self.assert_refused(play, -1, "back", 3)

    def test_it_changes_nothing_that_comes_behind_it(self):
        play = linked_play()
        play.post(0, 1, 1, fee=5)
        play.do("back", 0)
        play.do("back", 3)
        self.assertEqual(play.on(721), [721, 2])
        self.assertEqual(play.do("back", 4), [721, 1, 3, 0, 0, 5, 0, 5, 5, 0, 0, 0, 0])
        self.assertEqual(play.do("back", 3), [0, 1, 1, 0, 0, 5, 0, 5, 5, 0, 0, 0, 0])

    def test_over_and_over(self):
        play = busy_play()
        calls = list(play.calls)
        room = 400 - len(play.done()) - 10
        given = split_answers(answers(calls + [26, len(play.done())] * room))
        self.assertEqual(given[-room:], [play.do("back", len(play.done()))] * room)


if __name__ == "__main__":
    unittest.main()
