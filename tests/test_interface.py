"""The form of what is handed in and given back, the document's example, and what is kept behind the calls."""

import unittest

from postalhouse.house import answers
from tests.helper import COUNTS, HUGE, NUMBERS, Play, linked_play, plain, split

TRIP = [0, 1, 0, 1, 600, 120, 5]
POST = [2, 0, 7, 1, 4, 0, 0, 0, 30, 2]
EXAMPLE = TRIP + POST + [
    3, 721,
    7, 1, 9,
    7, 1, 9,
    8, 1,
    9, 7, 0,
    12, 0,
    11, 5, 0,
    12, 0,
    12, 0,
]
EXAMPLE_ANSWERS = [
    1, 1,
    2, 0, 720,
    2, 721, 2,
    2, 1, 1,
    2, 1, 2,
    1, 1,
    2, 0, 30,
    1, -6,
    1, 1,
    2, 30, 0,
    1, -7,
]


class Example(unittest.TestCase):
    def test_the_document_s_example(self):
        self.assertEqual(answers(EXAMPLE), EXAMPLE_ANSWERS)

    def test_30_are_owed_by_1_to_0(self):
        play = Play()
        for number, given in split(EXAMPLE):
            play.do(list(NUMBERS)[number], *given)
        house = play.house()
        self.assertEqual(house.debts, [[0] * 5, [30, 0, 0, 0, 0], [0] * 5, [0] * 5, [0] * 5])
        self.assertEqual(house.cash, [2 - 30, 30, 0, 0, 0])
        self.assertEqual((house.came_in, house.went_out), (32, 30))
        self.assertEqual([told.kind for told in house.messages], [0, 2, 1, 3, 6, 11])


class Form(unittest.TestCase):
    def test_one_call(self):
        self.assertEqual(answers(TRIP), [1, 1])

    def test_each_call_has_its_number_and_width(self):
        for name, number in NUMBERS.items():
            calls = [number] + [HUGE] * COUNTS[name] + [3, 5]
            self.assertEqual(answers(calls)[2:], [2, 5, 0], name)

    def test_numbers_of_any_size_are_refused(self):
        unknown = {"cancel": -5, "lose": -5, "hand": -5, "pickup": -5, "payout": -5, "claim": -5}
        for name, number in NUMBERS.items():
            for size in (HUGE, -HUGE):
                calls = [number] + [size] * COUNTS[name]
                self.assertEqual(answers(calls), [1, unknown.get(name, -1)], name)

    def test_answers_are_whole_numbers_in_a_list(self):
        given = answers(EXAMPLE + [4, 7, 0, 5, 1, 6, 0, 7, 10, 7, 13, 7, 1, 1, 4])
        self.assertEqual(type(given), list)
        self.assertEqual({type(number) for number in given}, {int})

    def test_what_is_handed_in_is_the_same_afterwards(self):
        calls = list(EXAMPLE)
        answers(calls)
        self.assertEqual(calls, EXAMPLE)

    def test_what_is_handed_in_is_not_changed_for_a_while_either(self):
        class Watched(list):
            def refuse(self, *given):
                raise AssertionError("changed")

            __setitem__ = __delitem__ = __iadd__ = __imul__ = refuse
            append = extend = insert = pop = remove = clear = reverse = sort = refuse

        self.assertEqual(answers(Watched(EXAMPLE)), EXAMPLE_ANSWERS)

    def test_nothing_is_kept_from_one_time_to_the_next(self):
        self.assertEqual(answers(EXAMPLE), EXAMPLE_ANSWERS)
        self.assertEqual(answers(EXAMPLE), EXAMPLE_ANSWERS)
        self.assertEqual(answers(TRIP), [1, 1])
        self.assertEqual(answers([9, 7, 0]), [1, -5])

    def test_the_answers_are_a_list_of_their_own(self):
        first = answers(EXAMPLE)
        first.clear()
        self.assertEqual(answers(EXAMPLE), EXAMPLE_ANSWERS)

    def test_400_calls_of_every_length(self):
        calls = list(TRIP)
        for number in range(1, 400):
            calls += [2, 0, number, 1, 0, 0, 0, 0, 0, 0]
        given = answers(calls)
        self.assertEqual(given[:2], [1, 1])
        self.assertEqual(given[2:62], [2, 0, 720] * 20)
        self.assertEqual(given[62:], [1, -3] * 379)

    def test_40_times_on(self):
        calls = []
        for number in range(1, 7):
            calls += [0, number, number % 4, (number + 1) % 4, 200 * number, 2880, 20]
        for number in range(1, 21):
            calls += [2, number % 4, number, (number + 2) % 4, 0, 0, 0, 0, 0, 0]
        for step in range(1, 41):
            calls += [3, 1000 * step]
        given = answers(calls)
        self.assertEqual(given[-3:], [2, 40000, 0])
        self.assertEqual(len(given), 2 * 6 + 3 * 20 + 3 * 40)


class Behind(unittest.TestCase):
    def test_the_journal_has_the_calls_that_were_not_refused(self):
        play = linked_play()
        play.post(0, 1, 1)
        play.post(0, 1, 1)
        play.on(721)
        play.on(720)
        play.do("check", 1)
        play.do("tell", 0, 0)
        house = play.house()
        expected = [
            (0, [1, 0, 1, 600, 120, 20]),
            (0, [2, 1, 0, 800, 60, 20]),
            (2, [0, 1, 1, 0, 0, 0, 0, 0, 0]),
            (3, [721]),
            (5, [1]),
            (11, [0, 0]),
        ]
        self.assertEqual(house.journal, expected)

    def test_a_post_without_a_way_is_no_refusal(self):
        play = Play()
        self.assertEqual(play.post(0, 1, 1), [0, -1])
        self.assertEqual(len(play.house().journal), 1)

    def test_the_journal_brings_everything_back(self):
        play = Play()
        for number, given in split(EXAMPLE):
            play.do(list(NUMBERS)[number], *given)
        again = Play()
        for number, given in play.house().journal:
            again.do(list(NUMBERS)[number], *given)
        self.assertEqual(plain(again.house()), plain(play.house()))


if __name__ == "__main__":
    unittest.main()
